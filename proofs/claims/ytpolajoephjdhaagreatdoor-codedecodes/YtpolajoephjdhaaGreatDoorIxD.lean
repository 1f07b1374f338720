import Derived.Test.YtpolajoephjdhaaGreatDoorPkM
import Derived.Test.YtpolajoephjdhaaGreatDoorDeM
import Derived.Test.YtpolajoephjdhaaGreatDoorDeI
import Derived.Test.YtpolajoephjdhaaGreatDoorBkM
import Derived.Test.YtpolajoephjdhaaGreatDoorLsA
/-
  The document's reader of bytes: number.
-/
namespace Go.Proofs.YtpolajoephjdhaaGreatDoor
open Go.RowKit
set_option maxRecDepth 100000
/-- The document's reader in memory. -/
def Rdd (W : World) (B k : Nat) (b : List UInt8) (s : Rs) : Prop :=
  B ≤ k ∧ s.at' ≤ b.length ∧ s.left ≤ 2000 ∧ b.length ≤ 281474976710656 ∧ ∃ vb, W.heap[k]? = some (.cells #[vb, .int .i64 (s.at' : Int), .bool s.bad, .int .i64 ((2000 - s.left : Nat) : Int)] 80 (0, 0)) ∧ Bs W vb b ∧ ∀ j, 0 < b.length → vb.ownBlock = some j → j < B
/-- What the document's number tells. -/
def dnmV (b : List UInt8) (l m : Nat) (s : Rs) : Nat := if (numR b l m s).bad then l else (Dec.getN (b.drop s.at')).1
theorem dnmV_ok {b : List UInt8} {l m : Nat} {s : Rs} (h : (numR b l m s).bad = false) : dnmV b l m s = numV b l m s := by
  unfold dnmV numV
  rw [h]
  rfl
theorem dnmV_zero (b : List UInt8) (m : Nat) (s : Rs) : dnmV b 0 m s = numV b 0 m s := rfl
theorem passR_bad {s : Rs} (h : s.bad = true) (n : Nat) (r : Bool) : passR s n r = s := by
  obtain ⟨a, l, b⟩ := s
  obtain rfl : b = true := h
  unfold passR
  simp
section
variable {W W' : World} {B k : Nat} {b : List UInt8} {s : Rs}
theorem Rdd.mv {S : Nat → Prop} (h : Rdd W B k b s) (hm : Mv W W' S) (hs : ∀ j, S j → B ≤ j ∧ j ≠ k) : Rdd W' B k b s := by
  obtain ⟨h1, h2, h3, h4, vb, h5, h6, h7⟩ := h
  exact ⟨h1, h2, h3, h4, vb, hm.at h5 (fun e => (hs k e).2 rfl), h6.mv hm (fun j hp e e2 => by have := (hs j e2).1; have := h7 j hp e; omega), h7⟩
theorem Rdd.later (h : Rdd W B k b s) (hb : Below W.heap.size W W') : Rdd W' B k b s := h.mv (Mv.of_below hb (fun _ => False)) (fun _ e => e.elim)
theorem Rdd.lt (h : Rdd W B k b s) : k < W.heap.size := by
  obtain ⟨-, -, -, -, vb, h5, -⟩ := h
  exact lt_of_block h5
theorem rdd_row {vb x y z : Value} (h : W.heap[k]? = some (.cells #[vb, x, y, z] 80 (0, 0))) : W.cell? ⟨k, 0, none⟩ = some vb ∧ W.cell? ⟨k, 1, none⟩ = some x ∧ W.cell? ⟨k, 2, none⟩ = some y ∧ W.cell? ⟨k, 3, none⟩ = some z := by
  refine ⟨?_, ?_, ?_, ?_⟩ <;> rw [cell_of_row W _ _ _ 80 (0, 0) h] <;> rfl
/-- One field of the reader turns. -/
theorem Rdd.set {s' : Rs} {i : Nat} {v vb : Value} (h : Rdd W B k b s) (h5 : W.heap[k]? = some (.cells #[vb, .int .i64 (s.at' : Int), .bool s.bad, .int .i64 ((2000 - s.left : Nat) : Int)] 80 (0, 0))) (ha : s'.at' ≤ b.length) (hl : s'.left ≤ 2000) (hi : (#[vb, .int .i64 (s.at' : Int), .bool s.bad, .int .i64 ((2000 - s.left : Nat) : Int)] : Array Value).setIfInBounds i v = #[vb, .int .i64 (s'.at' : Int), .bool s'.bad, .int .i64 ((2000 - s'.left : Nat) : Int)]) : Rdd (W.setCell ⟨k, i, none⟩ v) B k b s' := by
  obtain ⟨h1, h2, h3, h4, vb', h5', h6, h7⟩ := h
  have e : vb' = vb := by
    rw [h5'] at h5
    simp at h5
    exact h5
  subst e
  refine ⟨h1, ha, hl, h4, vb', ?_, ?_, h7⟩
  · rw [← hi]
    exact heap_setCell_same W k i _ 80 _ h5
  · exact h6.mv ((Mv.refl W (fun j => j = k)).set (g := k) rfl i v) (fun j hp e e2 => by have := h7 j hp e; omega)
set_option maxHeartbeats 2000000 in
theorem dnumber_at (h : Rdd W B k b s) (l m : Nat) (hl : l ≤ 100000) (hm : m ≤ 100000) : Calls Tryz.prog 27 #[.pointer (some ⟨k, 0, none⟩), .int .i64 (l : Int), .int .i64 (m : Int)] W fun e w' => e = .returned (.int .i64 (dnmV b l m s : Int)) ∧ Rdd w' B k b (numR b l m s) ∧ Mv W w' (fun j => j = k) := by
  have H := hide h
  obtain ⟨h1, h2, h3, h4, vb, h5, h6, h7⟩ := h
  obtain ⟨c0, c1, c2, c3⟩ := rdd_row h5
  obtain ⟨ao, c, rfl, hc1, hc2, hsh⟩ := slice_from h6
  obtain ⟨x, hx⟩ : ∃ x, x = numR b l m s := ⟨_, rfl⟩
  obtain ⟨v, hv⟩ : ∃ v, v = dnmV b l m s := ⟨_, rfl⟩
  rw [← hx, ← hv]
  unfold dnmV at hv
  rw [← hx] at hv
  unfold numR at hx
  cases hb : s.bad with
  | true =>
    rw [hb] at c2
    rw [passR_bad hb] at hx
    obtain rfl : v = l := by rw [hv, hx, hb]; rfl
    have HX := hide hx
    clear hx hv h5 h6 h7 h4 hc1 hc2 hsh
    go_enter Tryz.func27, Tryz.ntmps27
    go_wp2_with fail
    go_ret
    rw [HX.out]
    exact ⟨rfl, H.out, Mv.refl _ _⟩
  | false =>
    rw [hb] at c2
    have gl := Dec.getN_lt (b.drop s.at')
    have gn := Dec.getN_le (b.drop s.at')
    rw [List.length_drop] at gn
    have JG : Hid (∀ sv, Bs W sv (b.drop s.at') → ∀ n, Calls Tryz.prog 62 #[sv] (W.drewN n) fun e w' => e = .returned (.tuple #[.int .u64 ((Dec.getN (b.drop s.at')).1 : Int), .int .i64 ((Dec.getN (b.drop s.at')).2 : Int)]) ∧ w' = W.drewN n) := fun sv hs n => rget_any sv _ _ (hs.below (below_drawn W n) (Nat.le_refl _))
    have BF : Hid (∀ sv, sv = (Value.slice ao b.length c) → Bs W sv b) := fun sv e => e ▸ h6
    generalize (Dec.getN (b.drop s.at')).1 = gv at *
    generalize (Dec.getN (b.drop s.at')).2 = gs at *
    have HX := hide hx
    have HV := hide hv
    obtain ⟨a, ha⟩ : ∃ a, a = s.at' := ⟨_, rfl⟩
    rw [← ha] at c1 h2 JG gn
    have HA := hide ha
    have HB := hide hb
    have H5 := hide h5
    have GN := hide gn
    have A2 := hide h2
    have DN : Hid (∀ n, Below W.heap.size W (W.drewN n)) := fun n => below_drawn W n
    clear hx hv h5 h6 h7 ha h3 h1 hb
    go_enter Tryz.func27, Tryz.ntmps27
    go_upto_region 3 with fail
    go_cut [7, 8] (fun v7 v8 wx => v7 = .int .u64 (gv : Int) ∧ v8 = .int .i64 (gs : Int) ∧ Hid (∃ n, wx = W.drewN n))
    case first =>
      rcases hsh with ⟨rfl, rfl⟩ | ⟨y, rfl, rfl⟩ | ⟨g, o, rfl, hp⟩
      · have J := hide (JG.out (.slice none 0 c) (by simpa using Bs.empty W none c (by unfold maxLen; omega)))
        obtain rfl : a = 0 := by simpa using h2
        have c0' : W.cell? ⟨k, 0, none⟩ = some (.slice none 0 c) := c0
        clear JG c0 h2 hc1 gn h4
        go_quiet (exact Calls.quiet_of_same (J.out _))
        go_wp2_with fail
        all_goals go_meet
        all_goals exact ⟨rfl, rfl, nq, rfl⟩
      · obtain rfl : a = 0 := by simpa using h2
        have J := hide (JG.out (.slice (some y) 0 c) (by simpa using Bs.empty W _ c (by unfold maxLen; omega)))
        have c0' : W.cell? ⟨k, 0, none⟩ = some (.slice (some y) 0 c) := c0
        clear JG c0 h2 hc1 gn h4
        go_quiet (exact Calls.quiet_of_same (J.out _))
        go_wp2_with fail
        all_goals go_meet
        all_goals exact ⟨rfl, rfl, nq, rfl⟩
      · have J := hide (JG.out _ (Bs.from (BF.out _ rfl) h2))
        have i1 : (0 : Int) ≤ (a : Int) := by omega
        have i2 : (a : Int) ≤ (b.length : Int) := by omega
        clear JG
        go_quiet (exact Calls.quiet_of_same (J.out _))
        go_wp2_with fail
        all_goals go_meet
        all_goals exact ⟨rfl, rfl, nq, rfl⟩
    obtain ⟨rfl, rfl, hd⟩ := hcut
    obtain ⟨n, hn⟩ := hd.out
    subst hn
    obtain ⟨w1, hw1⟩ : ∃ X, X = W.drewN n := ⟨_, rfl⟩
    have H1 : Hid (Rdd w1 B k b s) := by unfold Hid; rw [hw1]; exact H.out.later (DN.out n)
    have N1 : Hid (w1.heap[k]? = some (.cells #[.slice ao b.length c, .int .i64 (s.at' : Int), .bool s.bad, .int .i64 ((2000 - s.left : Nat) : Int)] 80 (0, 0))) := by unfold Hid; rw [hw1]; exact ((DN.out n).block k (lt_of_block H5.out)).trans H5.out
    have M1 : Hid (Mv W w1 (fun j => j = k)) := by unfold Hid; rw [hw1]; exact Mv.of_below (DN.out n) _
    rw [← hw1]
    have HL3 := hide H.out.2.2.1
    clear JG BF hd hsh c0 c1 c2 c3 hc1 hc2 h2 gn h4 hw1 DN H5 H
    obtain ⟨c0, c1, c2, c3⟩ := rdd_row N1.out
    have zk : ∀ q, w1.frozen? ⟨k, q, none⟩ = false := fun q => frozen_of_row w1 k q _ 80 N1.out
    rw [← HA.out] at c1
    by_cases hbad : gs = 0 ∨ ¬ (l ≤ gv ∧ gv ≤ m)
    · have XB : Hid (x = ⟨s.at', s.left, true⟩) := by
        unfold Hid
        rw [HX.out]
        unfold passR
        rw [if_pos]
        rcases hbad with h | h
        · simp [h]
        · simp [h]
      obtain rfl : v = l := by rw [HV.out, XB.out]; rfl
      have RX : Hid (Rdd (w1.setCell ⟨k, 2, none⟩ (.bool true)) B k b x) := by
        unfold Hid
        rw [XB.out]
        exact H1.out.set N1.out (by rw [← HA.out]; exact A2.out) HL3.out rfl
      have MX : Hid (Mv W (w1.setCell ⟨k, 2, none⟩ (.bool true)) (fun j => j = k)) := M1.out.set (g := k) rfl 2 _
      rcases (show gs = 0 ∨ (gs ≠ 0 ∧ gv < v) ∨ (gs ≠ 0 ∧ v ≤ gv ∧ m < gv) by omega) with h0 | ⟨h0, hlo⟩ | ⟨h0, hlo, hhi⟩
      · subst h0
        clear hbad
        go_wp2_with fail
        go_ret
        exact ⟨rfl, RX.out, MX.out⟩
      · have t0 : ((gs : Int) == 0) = false := by rw [beq_eq_false_iff_ne]; omega
        have t1 : (gv : Int) < (v : Int) := by omega
        clear hbad
        go_wp2_with fail
        go_ret
        exact ⟨rfl, RX.out, MX.out⟩
      · have t0 : ((gs : Int) == 0) = false := by rw [beq_eq_false_iff_ne]; omega
        have t1 : ¬ (gv : Int) < (v : Int) := by omega
        have t2 : (m : Int) < (gv : Int) := by omega
        clear hbad
        go_wp2_with fail
        go_ret
        exact ⟨rfl, RX.out, MX.out⟩
    · have hg0 : gs ≠ 0 := fun e => hbad (.inl e)
      have hlm : l ≤ gv ∧ gv ≤ m := Classical.byContradiction fun e => hbad (.inr e)
      have XB : Hid (x = ⟨s.at' + gs, s.left, false⟩) := by
        unfold Hid
        rw [HX.out]
        unfold passR
        rw [if_neg (by rw [HB.out]; simp [hg0, hlm])]
      obtain rfl : v = gv := by rw [HV.out, XB.out]; rfl
      have GG := GN.out
      have AA := A2.out
      have RX : Hid (Rdd (w1.setCell ⟨k, 1, none⟩ (.int .i64 ((a : Int) + (gs : Int)))) B k b x) := by
        unfold Hid
        rw [XB.out]
        refine H1.out.set N1.out (by show s.at' + gs ≤ _; rw [← HA.out]; omega) HL3.out ?_
        have : ((a : Int) + (gs : Int)) = ((s.at' + gs : Nat) : Int) := by have := HA.out; omega
        rw [this, HB.out]
        rfl
      have MX : Hid (Mv W (w1.setCell ⟨k, 1, none⟩ (.int .i64 ((a : Int) + (gs : Int)))) (fun j => j = k)) := M1.out.set (g := k) rfl 1 _
      have t0 : ((gs : Int) == 0) = false := by rw [beq_eq_false_iff_ne]; omega
      have t1 : ¬ (v : Int) < (l : Int) := by omega
      have t2 : ¬ (m : Int) < (v : Int) := by omega
      have t3 : ¬ (m : Int) < (l : Int) := by omega
      have BL := hide H1.out.2.2.2.1
      have BLL := BL.out
      clear hbad
      go_wp2_with fail
      go_ret
      exact ⟨ret_int (by simp), RX.out, MX.out⟩
end
end Go.Proofs.YtpolajoephjdhaaGreatDoor

/-
  The document's reader of bytes: set.
-/
namespace Go.Proofs.YtpolajoephjdhaaGreatDoor
open Go.RowKit
set_option maxRecDepth 100000
theorem numR_bad {b : List UInt8} {l m : Nat} {s : Rs} (h : s.bad = true) : numR b l m s = s := passR_bad h _ _
theorem setG_bad {b : List UInt8} : ∀ (n last : Nat) {s : Rs}, s.bad = true → setG b n last s = s
  | 0, _, _, _ => rfl
  | n + 1, last, s, h => by
    show setG b n (numV b (last + 1) 12 s) (numR b (last + 1) 12 s) = s
    rw [numR_bad h]
    exact setG_bad n _ h
theorem dnmV_le {b : List UInt8} {l m : Nat} {s : Rs} (h : l ≤ m) : dnmV b l m s ≤ m := by
  cases hb : (numR b l m s).bad with
  | true => unfold dnmV; rw [hb]; exact h
  | false => rw [dnmV_ok hb]; exact numV_le b l m s
section
variable {W W' : World} {B k : Nat} {b : List UInt8} {s : Rs}
set_option maxHeartbeats 2000000 in
theorem dset_at (h : Rdd W B k b s) : Calls Tryz.prog 28 #[.pointer (some ⟨k, 0, none⟩)] W fun e w' => ∃ v l, e = .returned v ∧ w'.ownsRow W.heap.size 3 1 v l.length (intC l) ∧ ((setR b s).bad = false → l = setV b s) ∧ Rdd w' B k b (setR b s) ∧ Mv W w' (fun j => j = k) := by
  have hk := h.lt
  have hBk := h.1
  have J1 := hide (dnumber_at h 0 12 (by omega) (by omega))
  rw [dnmV_zero] at J1
  obtain ⟨x, hx⟩ : ∃ x, x = setR b s := ⟨_, rfl⟩
  obtain ⟨v, hv⟩ : ∃ v, v = setV b s := ⟨_, rfl⟩
  rw [← hx, ← hv]
  unfold setR at hx
  unfold setV at hv
  have HX := hide hx
  have HV := hide hv
  have hn := numV_le b 0 12 s
  generalize numV b 0 12 s = n at *
  generalize numR b 0 12 s = s1 at *
  clear h hx hv
  go_enter Tryz.func28, Tryz.ntmps28
  go_wp2_with fail
  refine J1.out.mono ?_
  rintro e w1 ⟨rfl, hr1, hm1⟩
  have R1 := hide hr1
  have M1 := hide hm1
  clear hr1 hm1 J1
  go_wp2_with fail
  go_loopw [6, 5, 4] (fun va vl vs wr => ∃ (j last : Nat) (st : Rs) (dn : List Int), va = .int .i64 (j : Int) ∧ vl = .int .i64 (last : Int) ∧ j ≤ n ∧ last ≤ 13 ∧ (st.bad = false → last ≤ 12) ∧ dn.length = j ∧ Hid (x = setG b (n - j) last st) ∧ Hid (st.bad = false → v = dn ++ setL b (n - j) last st) ∧ Hid (wr.ownsRow W.heap.size 3 1 vs dn.length (intC dn)) ∧ Hid (Rdd wr B k b st) ∧ Hid (Mv W wr (fun j => j = k))) (fun va _ _ _ => n - (intOf va).toNat)
  case atStart => exact ⟨0, 0, s1, [], rfl, rfl, by omega, by omega, fun _ => by omega, rfl, HX.out, fun _ => HV.out, ⟨rfl, .inl ⟨rfl, rfl⟩⟩, R1.out, M1.out⟩
  case round =>
    obtain ⟨j, last, st, dn, rfl, rfl, hj, hl, hl12, hdn, hx, hv, hown, hrd, hmv⟩ := hrel
    obtain ⟨h1, h2, h3, h4, vb, h5, h6, h7⟩ := hrd.out
    obtain ⟨c0, c1, c2, c3⟩ := rdd_row h5
    clear h1 h2 h3 h4 h5 h6 h7
    by_cases hlt : j < n
    · cases hb : st.bad with
      | true =>
        rw [hb] at c2
        have XS : Hid (x = st) := by unfold Hid; rw [hx.out]; exact setG_bad _ _ hb
        have XB : Hid (x.bad = true) := by unfold Hid; rw [XS.out]; exact hb
        clear hx hv hl12 hb
        go_wp2_with fail
        go_ret
        refine ⟨_, dn, rfl, hown.out, (fun e => by rw [XB.out] at e; cases e), ?_, hmv.out⟩
        rw [XS.out]
        exact hrd.out
      | false =>
        rw [hb] at c2
        have hl' : last ≤ 12 := hl12 hb
        have J2 := hide (dnumber_at hrd.out (last + 1) 12 (by omega) (by omega))
        obtain ⟨q, hq⟩ : ∃ q, n - j = q + 1 := ⟨n - j - 1, by omega⟩
        have hq' : n - (j + 1) = q := by omega
        have HX2 : Hid (x = setG b (n - (j + 1)) (dnmV b (last + 1) 12 st) (numR b (last + 1) 12 st)) := by
          unfold Hid
          rw [hx.out, hq, hq']
          show setG b q (numV b (last + 1) 12 st) (numR b (last + 1) 12 st) = _
          cases hb2 : (numR b (last + 1) 12 st).bad with
          | true => rw [setG_bad _ _ hb2, setG_bad _ _ hb2]
          | false => rw [dnmV_ok hb2]
        have HV2 : Hid ((numR b (last + 1) 12 st).bad = false → v = (dn ++ [(dnmV b (last + 1) 12 st : Int)]) ++ setL b (n - (j + 1)) (dnmV b (last + 1) 12 st) (numR b (last + 1) 12 st)) := fun hb2 => by
          rw [dnmV_ok hb2, hv.out hb, hq, hq', setL]
          simp
        have hn1 : dnmV b (last + 1) 12 st ≤ 13 := by
          cases hb2 : (numR b (last + 1) 12 st).bad with
          | true => unfold dnmV; rw [hb2]; show last + 1 ≤ 13; omega
          | false => rw [dnmV_ok hb2]; have := numV_le b (last + 1) 12 st; omega
        have hn2 : (numR b (last + 1) 12 st).bad = false → dnmV b (last + 1) 12 st ≤ 12 := fun hb2 => by rw [dnmV_ok hb2]; exact numV_le b (last + 1) 12 st
        have HN2 := hide hn2
        generalize dnmV b (last + 1) 12 st = nl at *
        generalize numR b (last + 1) 12 st = st2 at *
        clear hx hv hq hq' hl12 hb hn2
        go_wp2_with fail
        refine J2.out.mono ?_
        rintro e w2 ⟨rfl, hr2, hm2⟩
        obtain ⟨ic, hi, hz0, hz1, hz2⟩ := info_parts infoN
        have O2 := hm2.own hown.out (fun g e1 e2 => by have := (hown.out.lt g e1).1; omega)
        have R2 := hide hr2
        have M2 := hide (hmv.out.trans hm2 (fun _ _ e => e))
        have hsz := M2.out.size
        clear hr2 hm2 J2 c0 c1 c2 c3
        go_wp2_with (at_builtin; refine wpList_append_own _ rfl _ _ 42 rfl W.heap.size 3 ic (.int .i64 0) 1 8 Tryz.underlying42 hi hz0 hz1 hz2 rfl (by decide) _ _ _ rfl (O2.alloc _) ⟨w2.heap.size, 0, none⟩ 1 1 [.int .i64 (nl : Int)] rfl rfl ?c1 ?c2 ?c3 ?c4 ?c5 ?_)
        case c1 =>
          intro j u hj
          match j, hj with
          | 0, hj => simp at hj; subst hj; simp [Addr.add]
        case c2 => intro u hu; simp at hu; subst hu; rfl
        case c3 => unfold maxLen; omega
        case c4 => omega
        case c5 => simp; omega
        intro v3 w3 ho3 hg3 _
        have m3 : Mv w2 w3 (fun j => W.heap.size ≤ j) := ((Mv.refl w2 (fun j => W.heap.size ≤ j)).alloc _).grown hg3 (fun g _ e => (O2.lt g e).1)
        rw [← intC_snoc] at ho3
        have O3 : Hid (w3.ownsRow W.heap.size 3 1 v3 (dn ++ [(nl : Int)]).length (intC (dn ++ [(nl : Int)]))) := by unfold Hid; rw [List.length_append, hdn]; exact ho3
        have R3 := hide (R2.out.mv m3 (fun j e => ⟨by omega, by omega⟩))
        have M3 := hide (M2.out.trans m3 (fun j hj e => by omega))
        clear ho3 hg3 m3 O2
        go_wp2_with fail
        exact ⟨⟨j + 1, nl, st2, dn ++ [(nl : Int)], by go_num, rfl, by omega, hn1, HN2.out, by simp [hdn], HX2.out, HV2.out, O3.out, R3.out, M3.out⟩, by simp [intOf]; omega⟩
    · obtain rfl : j = n := by omega
      have XS : Hid (x = st) := by unfold Hid; rw [hx.out, Nat.sub_self]; rfl
      have VS : Hid (st.bad = false → dn = v) := fun hb => by rw [hv.out hb, Nat.sub_self, setL]; simp
      clear hx hv hl12
      go_wp2_with fail
      go_ret
      refine ⟨_, dn, rfl, hown.out, (fun e => VS.out (by rw [← XS.out]; exact e)), ?_, hmv.out⟩
      rw [XS.out]
      exact hrd.out
end
end Go.Proofs.YtpolajoephjdhaaGreatDoor

/-
  A name among bytes, as the document reads it.
-/
namespace Go.Proofs.YtpolajoephjdhaaGreatDoor
open Go.RowKit
theorem getFrom_take : ∀ (l : List UInt8) (k acc m : Nat), 10 ≤ k + m → Dec.getFrom k acc (l.take m) = Dec.getFrom k acc l
  | [], k, acc, m, _ => by rw [List.take_nil]
  | b :: r, k, acc, m, h => by
    by_cases hk : 10 ≤ k
    · rw [Dec.getFrom_ten _ _ _ hk, Dec.getFrom_ten _ _ _ hk]
    · obtain ⟨q, rfl⟩ : ∃ q, m = q + 1 := ⟨m - 1, by omega⟩
      rw [List.take_succ_cons]
      by_cases hb : 128 ≤ b.toNat
      · rw [Dec.getFrom_more (by omega) hb, Dec.getFrom_more (by omega) hb]
        exact getFrom_take r _ _ _ (by omega)
      · by_cases hbad : (0 < k ∧ b.toNat = 0) ∨ (k = 9 ∧ 1 < b.toNat)
        · rw [Dec.getFrom_bad (by omega) (by omega) hbad, Dec.getFrom_bad (by omega) (by omega) hbad]
        · rw [Dec.getFrom_last (by omega) (by omega) hbad, Dec.getFrom_last (by omega) (by omega) hbad]
theorem getN_take (l : List UInt8) : Dec.getN (l.take 17) = Dec.getN l := getFrom_take l 0 0 17 (by omega)
theorem uv_small {n : Nat} (h : n < 128) : (Lib.uvarint n).length = 1 := by
  rw [Lib.uvarint]
  simp [h]
/-- A text of at most sixteen bytes, or none. -/
theorem text17 (l : List UInt8) : ((textN l).2 ≠ 0 ∧ 1 ≤ (textN l).1.length ∧ (textN l).1.length ≤ 16 ∧ textN (l.take 17) = textN l) ∨ (((textN l).2 = 0 ∨ (textN l).1.length < 1 ∨ 16 < (textN l).1.length) ∧ ((textN (l.take 17)).2 = 0 ∨ (textN (l.take 17)).1 = [])) := by
  unfold textN
  rw [getN_take, List.length_take]
  have hk := Dec.getN_le l
  have hb := @getN_back l (Dec.getN l).1 (Dec.getN l).2 rfl
  generalize (Dec.getN l).1 = n at *
  generalize (Dec.getN l).2 = k at *
  by_cases h0 : k = 0 ∨ l.length - k < n
  · rw [if_pos h0, if_pos (by omega)]
    exact .inr ⟨.inl rfl, .inl rfl⟩
  · rw [if_neg h0]
    have hl : ((l.drop k).take n).length = n := by rw [List.length_take, List.length_drop]; omega
    by_cases hn0 : n = 0
    · subst hn0
      rw [if_neg (by omega)]
      exact .inr ⟨.inr (.inl (by simp)), .inr (by simp)⟩
    · by_cases hn : n ≤ 16
      · have hk1 : k = 1 := by
          have := (hb (by omega)).2
          rw [uv_small (by omega)] at this
          exact this
        subst hk1
        rw [if_neg (by omega)]
        refine .inl ⟨by simp, by rw [hl]; omega, by rw [hl]; exact hn, ?_⟩
        rw [List.drop_take, List.take_take, Nat.min_eq_left (by omega)]
      · rw [if_pos (by omega)]
        exact .inr ⟨.inr (.inr (by rw [hl]; omega)), .inl rfl⟩
theorem nmT_eq (b : List UInt8) (s : Rs) : nmT b s = textN ((b.drop s.at').take 17) := by
  unfold nmT
  rw [List.drop_take]
  congr 2
  omega
theorem name_good {b : List UInt8} {s : Rs} (hb : s.bad = false) (h1 : (textN (b.drop s.at')).2 ≠ 0) (h2 : 1 ≤ (textN (b.drop s.at')).1.length) (h3 : (textN (b.drop s.at')).1.length ≤ 16) : nmR b s = ⟨s.at' + (textN (b.drop s.at')).2, s.left, false⟩ ∧ nmV b s = (textN (b.drop s.at')).1 := by
  rcases text17 (b.drop s.at') with ⟨-, -, -, h⟩ | ⟨h, -⟩
  · have e := nmT_eq b s
    rw [h] at e
    have hne : (textN (b.drop s.at')).1 ≠ [] := fun e => by rw [e] at h2; simp at h2
    have hr : nmR b s = ⟨s.at' + (textN (b.drop s.at')).2, s.left, false⟩ := by
      unfold nmR passR
      rw [e, if_neg (by simp [hb, h1, hne])]
    refine ⟨hr, ?_⟩
    unfold nmV
    rw [hr, e]
    rfl
  · omega
theorem name_wrong {b : List UInt8} {s : Rs} (h : (textN (b.drop s.at')).2 = 0 ∨ (textN (b.drop s.at')).1.length < 1 ∨ 16 < (textN (b.drop s.at')).1.length) : nmR b s = ⟨s.at', s.left, true⟩ := by
  rcases text17 (b.drop s.at') with ⟨h1, h2, h3, -⟩ | ⟨-, h'⟩
  · omega
  · have e := nmT_eq b s
    unfold nmR passR
    rw [e, if_pos]
    rcases h' with h' | h'
    · simp [h']
    · simp [h']
end Go.Proofs.YtpolajoephjdhaaGreatDoor

/-
  The document's reader of bytes: what is wrong stays wrong; a name.
-/
namespace Go.Proofs.YtpolajoephjdhaaGreatDoor
open Go.RowKit
set_option maxRecDepth 100000
theorem numV_bad {b : List UInt8} {l m : Nat} {s : Rs} (h : s.bad = true) : numV b l m s = 0 := by
  unfold numV
  rw [numR_bad h, h]
  rfl
theorem insR_bad {b : List UInt8} {s : Rs} (h : s.bad = true) : insR b s = s := by
  unfold insR insNm
  rw [numV_bad h, numR_bad h]
  rfl
theorem codeG_bad {b : List UInt8} : ∀ (n : Nat) {s : Rs}, s.bad = true → codeG b n s = s
  | 0, _, _ => rfl
  | n + 1, s, h => by
    show codeG b n (insR b s) = s
    rw [insR_bad h]
    exact codeG_bad n h
theorem rtn_name {b : List UInt8} {s : Rs} (h : (nmR b s).bad = true) : rtnR b s = nmR b s := by
  have e1 : rtS1 b s = nmR b s := rfl
  have e2 : rtS2 b s = nmR b s := by unfold rtS2; rw [e1, numR_bad h]
  have e3 : rtS3 b s = nmR b s := by unfold rtS3; rw [e2, numR_bad h]
  have e4 : rtS4 b s = nmR b s := by unfold rtS4; rw [e3, numR_bad h]
  have ec : rtC b s = 0 := by unfold rtC; rw [e3]; exact numV_bad h
  unfold rtnR rtS5
  rw [ec, e4]
  rfl
theorem nmR_bad {b : List UInt8} {s : Rs} (h : s.bad = true) : nmR b s = s := passR_bad h _ _
theorem rtn_bad {b : List UInt8} {s : Rs} (h : s.bad = true) : rtnR b s = s := by
  have := nmR_bad (b := b) h
  rw [rtn_name (by rw [this]; exact h), this]
section
variable {W W' : World} {B k : Nat} {b : List UInt8} {s : Rs}
/-- While the document's reader reads a routine. -/
def Lcd (W w : World) (B k : Nat) (b : List UInt8) (s : Rs) (r2 r3 : Nat) (x y z t : Value) : Prop :=
  w.heap[r2]? = some (.cells #[.string ⟨#[]⟩, .int .i64 0, .int .i64 0, .slice none 0 0] 45 (0, 0)) ∧ w.heap[r3]? = some (.cells #[x, y, z, t] 45 (0, 0)) ∧ Rdd w B k b s ∧ Mv W w (fun j => j = k) ∧ k < r2 ∧ r2 < r3 ∧ W.heap.size ≤ r2
theorem Lcd.call {w w' : World} {s' : Rs} {r2 r3 : Nat} {x y z t : Value} (h : Lcd W w B k b s r2 r3 x y z t) (hr : Rdd w' B k b s') (hm : Mv w w' (fun j => j = k)) : Lcd W w' B k b s' r2 r3 x y z t := by
  obtain ⟨h1, h2, h3, h4, h5, h6, h7⟩ := h
  exact ⟨hm.at h1 (by omega), hm.at h2 (by omega), hr, h4.trans hm (fun _ _ e => e), h5, h6, h7⟩
theorem Lcd.later {w w' : World} {r2 r3 : Nat} {x y z t : Value} (h : Lcd W w B k b s r2 r3 x y z t) (hb : Below w.heap.size w w') : Lcd W w' B k b s r2 r3 x y z t := h.call (h.2.2.1.later hb) (Mv.of_below hb _)
theorem Lcd.set {w : World} {r2 r3 i : Nat} {x y z t x' y' z' t' v : Value} (h : Lcd W w B k b s r2 r3 x y z t) (he : (#[x, y, z, t] : Array Value).setIfInBounds i v = #[x', y', z', t']) : Lcd W (w.setCell ⟨r3, i, none⟩ v) B k b s r2 r3 x' y' z' t' := by
  obtain ⟨h1, h2, h3, h4, h5, h6, h7⟩ := h
  have hk := h3.1
  have m := (Mv.refl w (fun j => j = r3)).set (g := r3) rfl i v
  have e := heap_setCell_same w r3 i _ 45 v h2
  rw [he] at e
  exact ⟨m.at h1 (by omega), e, h3.mv m (fun j e => by omega), h4.trans m (fun j hj e => by omega), h5, h6, h7⟩
theorem Lcd.grow {w w' : World} {r2 r3 : Nat} {x y z t : Value} (h : Lcd W w B k b s r2 r3 x y z t) (hm : Mv w w' (fun j => r3 + 1 ≤ j)) : Lcd W w' B k b s r2 r3 x y z t := by
  obtain ⟨h1, h2, h3, h4, h5, h6, h7⟩ := h
  have := h3.1
  exact ⟨hm.at h1 (by omega), hm.at h2 (by omega), h3.mv hm (fun j e => by omega), h4.trans hm (fun j hj e => by omega), h5, h6, h7⟩
theorem Lcd.row {w : World} {r2 r3 : Nat} {x y z t : Value} (h : Lcd W w B k b s r2 r3 x y z t) : (w.cell? ⟨r3, 0, none⟩ = some x ∧ w.cell? ⟨r3, 1, none⟩ = some y ∧ w.cell? ⟨r3, 2, none⟩ = some z ∧ w.cell? ⟨r3, 3, none⟩ = some t) ∧ ∀ q, w.frozen? ⟨r3, q, none⟩ = false := ⟨row4 h.2.1, fun q => frozen_of_row w r3 q _ 45 h.2.1⟩
/-- The reader's own cells. -/
theorem Rdd.cells (h : Rdd W B k b s) : ∃ ao c, (W.cell? ⟨k, 0, none⟩ = some (.slice ao b.length c) ∧ W.cell? ⟨k, 1, none⟩ = some (.int .i64 (s.at' : Int)) ∧ W.cell? ⟨k, 2, none⟩ = some (.bool s.bad) ∧ W.cell? ⟨k, 3, none⟩ = some (.int .i64 ((2000 - s.left : Nat) : Int))) ∧ (∀ q, W.frozen? ⟨k, q, none⟩ = false) ∧ W.heap[k]? = some (.cells #[.slice ao b.length c, .int .i64 (s.at' : Int), .bool s.bad, .int .i64 ((2000 - s.left : Nat) : Int)] 80 (0, 0)) ∧ Bs W (.slice ao b.length c) b := by
  obtain ⟨h1, h2, h3, h4, vb, h5, h6, h7⟩ := h
  obtain ⟨ao, c, rfl, -⟩ := id h6
  exact ⟨ao, c, rdd_row h5, fun q => frozen_of_row W k q _ 80 h5, h5, h6⟩
/-- What is left of the bytes, as a slice. -/
theorem Bs.rest {ao : Option Addr} {c a : Nat} {l : List UInt8} (h : Bs W (.slice ao l.length c) l) (ha : a ≤ l.length) : (ao = none ∧ l = [] ∧ a = 0 ∧ c ≤ 9223372036854775807 ∧ Bs W (.slice none 0 c) (l.drop a)) ∨ (∃ y, ao = some y ∧ l = [] ∧ a = 0 ∧ c ≤ 9223372036854775807 ∧ Bs W (.slice (some y) 0 c) (l.drop a)) ∨ ∃ g o, ao = some ⟨g, o, none⟩ ∧ 0 < l.length ∧ c ≤ 9223372036854775807 ∧ l.length ≤ c ∧ Bs W (.slice (if c = a then some ⟨g, o, none⟩ else some ⟨g, o + a, none⟩) (l.length - a) (c - a)) (l.drop a) := by
  obtain ⟨ao', c', e, hc1, hc2, hsh⟩ := slice_from h
  injection e with e1 e2 e3
  subst e1 e3
  rcases hsh with ⟨rfl, rfl⟩ | ⟨y, rfl, rfl⟩ | ⟨g, o, rfl, hp⟩
  · obtain rfl : a = 0 := by simpa using ha
    exact .inl ⟨rfl, rfl, rfl, hc2, by simpa using Bs.empty W none c (by unfold maxLen; omega)⟩
  · obtain rfl : a = 0 := by simpa using ha
    exact .inr (.inl ⟨y, rfl, rfl, rfl, hc2, by simpa using Bs.empty W _ c (by unfold maxLen; omega)⟩)
  · exact .inr (.inr ⟨g, o, rfl, hp, hc2, hc1, Bs.from h ha⟩)
end
end Go.Proofs.YtpolajoephjdhaaGreatDoor
