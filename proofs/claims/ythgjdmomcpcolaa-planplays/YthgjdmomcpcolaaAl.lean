/-
  Plan: allLeft, take.
-/
import Derived.Test.YthgjdmomcpcolaaNe
import Derived.Laws.BitsAllLaws
namespace Go.Proofs.Ythgjdmomcpcolaa
open Go.RowKit
set_option maxRecDepth 100000
/-- The lowest bit. -/
def lb (j : Nat) : Int := bits BinOp.and IntKind.i64 (j : Int) (-(j : Int))
def low : Nat → Nat → Nat
  | 0, _ => 1
  | f + 1, j => if j % 2 = 1 then 1 else 2 * low f (j / 2)
theorem low_pow : ∀ (e f q : Nat), e < f → low f ((2 * q + 1) * 2 ^ e) = 2 ^ e
  | 0, f + 1, q, _ => by
    rw [low, Nat.pow_zero, Nat.mul_one, if_pos (by omega)]
  | e + 1, f + 1, q, h => by
    have h1 : (2 * q + 1) * 2 ^ (e + 1) = 2 * ((2 * q + 1) * 2 ^ e) := by rw [Nat.pow_succ, ← Nat.mul_assoc, Nat.mul_comm _ 2]
    rw [low, h1, if_neg (by omega), Nat.mul_div_cancel_left _ (by omega), low_pow e f q (by omega), Nat.pow_succ, Nat.mul_comm]
theorem lb_all : (List.range 1001).all (fun j => j == 0 || lb j == (low 12 j : Int)) = true := by kernel_rfl
theorem lb_low (j : Nat) (h0 : j ≠ 0) (h : j ≤ 1000) : lb j = (low 12 j : Int) := by
  have := List.all_eq_true.1 lb_all j (List.mem_range.2 (by omega))
  simp only [Bool.or_eq_true, beq_iff_eq] at this
  rcases this with h1 | h1
  · exact absurd h1 h0
  · exact h1
theorem lb_pow (e q n : Nat) (hn : n ≤ 1000) (h : (2 * q + 1) * 2 ^ e ≤ n) : lb ((2 * q + 1) * 2 ^ e) = ((2 ^ e : Nat) : Int) := by
  have hp : 0 < 2 ^ e := Nat.two_pow_pos e
  have h1 : 2 ^ e ≤ (2 * q + 1) * 2 ^ e := Nat.le_mul_of_pos_left _ (by omega)
  have he : e < 12 := by
    rcases Nat.lt_or_ge e 12 with h | h
    · exact h
    · have : 2 ^ 12 ≤ 2 ^ e := Nat.pow_le_pow_right (by omega) h
      omega
  rw [lb_low _ (by omega) (by omega), low_pow e 12 q he]
set_option maxHeartbeats 4000000 in
theorem allleft_any (n : Nat) (w : World) (hn : n ≤ 1000) : Calls Try.prog 41 #[.int .i64 (n : Int)] w fun e w' => ∃ v l, e = .returned v ∧ Rw w' w.heap.size v l ∧ Fw l n (List.range n) ∧ Below w.heap.size w w' := by
  obtain ⟨i0, hi0, hz0, hz1, hz2⟩ := info_parts info3
  have HN := hide hn
  have t0 : IntKind.i64.wrap ((n : Int) + 1) = ((n + 1 : Nat) : Int) := by rw [IntKind.wrap_i64]; omega
  clear hn
  go_enter Try.func41, Try.ntmps41
  go_wp2_with (at_make; refine wpList_make_full _ rfl _ _ 76 rfl w.heap.size 3 i0 (.int .i64 0) 1 Try.underlying76 hi0 hz0 hz1 .i64 .i64 _ _ (n + 1) rfl rfl ?c1 ?c2 ?c3 ?c4 ?c5 ?_)
  case c1 => have := HN.out; first | rfl | omega
  case c2 => have := HN.out; first | rfl | omega
  case c3 => have := HN.out; rw [hz2]; omega
  case c4 => have := HN.out; unfold maxLen; omega
  case c5 => omega
  intro w1 hown hgrow
  rw [toList_madeCells_one] at hown
  have hb1 : Below w.heap.size w w1 := (Below.refl _ w).grown hgrow (Nat.le_refl _) (fun k e => by cases e)
  have S0 : Hid (Rw w1 w.heap.size (.slice (some ⟨w.heap.size, 0, none⟩) (n + 1) (n + 1)) (List.replicate (n + 1) 0)) := by
    unfold Hid Rw
    rw [List.length_replicate]
    simpa [zc] using hown
  have B1 := hide hb1
  clear hown hgrow hb1 t0
  go_wp2_with fail
  obtain ⟨go, hgo⟩ : ∃ X, X = w.heap.size := ⟨_, rfl⟩
  rw [← hgo]
  have HGO := hide hgo
  clear hgo
  go_loopw [10] (fun v10 W => ∃ (i : Nat) (l : List Int), i ≤ n + 1 ∧ v10 = .int .i64 (i : Int) ∧ Hid (l.length = n + 1 ∧ (∀ j, j < i → l[j]? = some (lb j)) ∧ Rw W w.heap.size (.slice (some ⟨go, 0, none⟩) (n + 1) (n + 1)) l ∧ Below w.heap.size w W)) (fun v10 _ => n + 1 - (intOf v10).toNat)
  case atStart => exact ⟨0, List.replicate (n + 1) 0, Nat.zero_le _, rfl, by rw [List.length_replicate], fun j hj => by omega, by rw [HGO.out]; exact S0.out, B1.out⟩
  case round =>
    obtain ⟨i, l, hi, rfl, HR⟩ := hrel
    by_cases hlt : i < n + 1
    · have t1 : (i : Int) < (n : Int) + 1 := by omega
      obtain ⟨h1, h2, h3, h4⟩ := HR.out
      have hrow : wr.ownsRow w.heap.size 3 1 (.slice (some ⟨go, 0, none⟩) (n + 1) (n + 1)) (n + 1) (zc l) := by
        have := h3
        unfold Rw at this
        rw [h1] at this
        exact this
      have hce := hrow.cellAt i (by omega)
      rw [zc_at l i (by omega)] at hce
      have hfz := hrow.frozenAt i
      have HR' : Hid ((l.set i (lb i)).length = n + 1 ∧ (∀ j, j < i + 1 → (l.set i (lb i))[j]? = some (lb j)) ∧ Rw (wr.setCell ⟨go, i, none⟩ (.int .i64 (lb i))) w.heap.size (.slice (some ⟨go, 0, none⟩) (n + 1) (n + 1)) (l.set i (lb i)) ∧ Below w.heap.size w (wr.setCell ⟨go, i, none⟩ (.int .i64 (lb i)))) := by
        refine ⟨by rw [List.length_set, h1], fun j hj => ?_, ?_, ?_⟩
        · by_cases e : i = j
          · subst e
            rw [List.getElem?_set_self (by omega)]
          · rw [List.getElem?_set_ne e]
            exact h2 j (by omega)
        · have := (hrow.stored i (.int .i64 (lb i))).1
          rw [zc_set] at this
          unfold Rw
          rw [List.length_set, h1]
          exact this
        · have hmv : Mv wr (wr.setCell ⟨go, i, none⟩ (.int .i64 (lb i))) (fun k => k = go) := (Mv.refl wr (fun k => k = go)).set (g := go) rfl i _
          exact h4.trans (hmv.below h4.size (fun k e => by rw [e, HGO.out]; exact Nat.le_refl _))
      obtain ⟨x, hx⟩ : ∃ x, wr.cell? ⟨go, i, none⟩ = some (.int .i64 x) := ⟨_, hce⟩
      clear hce h1 h2 h3 h4 hrow
      clear S0 B1 HR
      have t9 : n + 1 ≤ 9223372036854775807 := by have := HN.out; omega
      have hlb : bits BinOp.and IntKind.i64 (i : Int) (-(i : Int)) = lb i := rfl
      go_wp2_with fail
      go_roundw
      case rel => exact ⟨i + 1, _, by omega, rfl, HR'.out⟩
      case measure => simp only [intOf]; omega
    · have t1 : ¬ (i : Int) < (n : Int) + 1 := by omega
      obtain rfl : i = n + 1 := by omega
      go_wp2_with fail
      go_ret
      obtain ⟨h1, h2, h3, h4⟩ := HR.out
      refine ⟨_, rfl, l, h3, Fw.all n l h1 (fun e q hq => ?_), h4⟩
      rw [h2 _ (by omega), lb_pow e q n HN.out hq]
theorem bitlen_two (n : Nat) (h : n < 2000) (h0 : 0 < n) : 1 ≤ Lib.bitLen n ∧ Lib.bitLen n ≤ 11 ∧ n < 2 ^ Lib.bitLen n := by
  have hc : (List.range 2000).all (fun n => n == 0 || (decide (1 ≤ Lib.bitLen n) && decide (Lib.bitLen n ≤ 11) && decide (n < 2 ^ Lib.bitLen n))) = true := by kernel_rfl
  have := List.all_eq_true.1 hc n (List.mem_range.2 h)
  simp only [Bool.or_eq_true, beq_iff_eq, Bool.and_eq_true, decide_eq_true_eq] at this
  rcases this with h1 | h1
  · omega
  · exact ⟨h1.1.1, h1.1.2, h1.2⟩
/-- The half of a level. -/
def hv (e : Nat) : Nat := if e = 0 then 0 else 2 ^ (e - 1)
theorem hv_succ (e : Nat) : hv (e + 1) = 2 ^ e := by simp [hv]
theorem hv_half (e : Nat) : hv e = 2 ^ e / 2 := by
  cases e with
  | zero => rfl
  | succ e => rw [hv_succ, Nat.pow_succ, Nat.mul_div_cancel _ (by omega)]
theorem asc_ge {pl : List Nat} (hp : pl.Pairwise (· < ·)) : ∀ k (h : k < pl.length), k ≤ pl[k]
  | 0, _ => Nat.zero_le _
  | k + 1, h => by
    have h1 := asc_ge hp k (by omega)
    have h2 := List.pairwise_iff_getElem.1 hp k (k + 1) (by omega) h (by omega)
    omega
theorem asc_len {pl : List Nat} (hp : pl.Pairwise (· < ·)) {n : Nat} (hb : ∀ x ∈ pl, x < n) : pl.length ≤ n := by
  rcases Nat.eq_zero_or_pos pl.length with h | h
  · omega
  · have h1 := asc_ge hp (pl.length - 1) (by omega)
    have h2 := hb _ (List.getElem_mem (show pl.length - 1 < pl.length by omega))
    omega
theorem wrap_hv (E : Nat) (h1 : 1 ≤ E) (h2 : E ≤ 11) : wrap64 ((2 : Int) ^ (E - 1)) = (hv E : Int) ∧ hv E ≤ 1024 := by
  have : E = 1 ∨ E = 2 ∨ E = 3 ∨ E = 4 ∨ E = 5 ∨ E = 6 ∨ E = 7 ∨ E = 8 ∨ E = 9 ∨ E = 10 ∨ E = 11 := by omega
  rcases this with rfl | rfl | rfl | rfl | rfl | rfl | rfl | rfl | rfl | rfl | rfl <;> exact ⟨by kernel_rfl, by decide⟩
theorem cnt_le (pl : List Nat) (a b : Nat) : cnt pl a b ≤ pl.length := List.countP_le_length
set_option maxHeartbeats 4000000 in
theorem take_any {w : World} {B g c n : Nat} {l : List Int} {pl : List Nat} (h : Rw w B (.slice (some ⟨g, 0, none⟩) (n + 1) c) l) (hF : Fw l n pl) (hn : n ≤ 1000) (hp : pl.Pairwise (· < ·)) (hpl : ∀ x ∈ pl, x < n) (i : Nat) (hi : i < pl.length) :
    Calls Try.prog 42 #[.slice (some ⟨g, 0, none⟩) (n + 1) c, .int .i64 (i : Int)] w fun e w' => ∃ l', e = .returned (.int .i64 (pl[i] : Int)) ∧ Rw w' B (.slice (some ⟨g, 0, none⟩) (n + 1) c) l' ∧ Fw l' n (pl.eraseIdx i) ∧ Mv w w' (fun k => k = g) := by
  obtain ⟨e1, e2, e3⟩ := bitlen_two (n + 1) (by omega) (by omega)
  have hT := hF.begin i hi hpl (Lib.bitLen (n + 1)) (by omega)
  have JB := hide (Try.bits_Len ((n + 1 : Nat) : Int) w (by omega) (by omega))
  rw [Int.toNat_natCast] at JB
  obtain ⟨E, hE⟩ : ∃ E, E = Lib.bitLen (n + 1) := ⟨_, rfl⟩
  rw [← hE] at e1 e2 e3 hT JB
  have hll : l.length = n + 1 := hF.1
  have T0 : Hid (TP n pl i E l 0 i ∧ w.ownsRow B 3 1 (.slice (some ⟨g, 0, none⟩) (n + 1) c) (n + 1) (zc l) ∧ Mv w w (fun k => k = g)) := ⟨hT, by unfold Rw at h; rw [hll] at h; exact h, Mv.refl _ _⟩
  obtain ⟨hc1, hc2⟩ := own_cap T0.out.2.1
  have HP := hide hp
  have HN := hide hn
  have HE : Hid (1 ≤ E ∧ E ≤ 11) := ⟨e1, e2⟩
  have HIP := hide hi
  have hpn : pl.length ≤ 1000 := Nat.le_trans (asc_len hp hpl) hn
  have HPN := hide hpn
  clear h hF hn hp hpl hT hE hll e1 e2 e3 hpn
  have hs : (1 : Int) ≤ (E : Int) := by have := HE.out; omega
  have hs2 : (E : Int) ≤ 11 := by have := HE.out; omega
  obtain ⟨hw2, hh2⟩ := wrap_hv E HE.out.1 HE.out.2
  have HH : Hid (hv E ≤ 1024) := hh2
  clear hh2
  go_enter Try.func42, Try.ntmps42
  go_wp2_with fail
  refine JB.out.mono ?_
  rintro e w1 ⟨rfl, rfl⟩
  go_wp2_with fail
  rw [hw2]
  clear hw2 hs hs2 JB
  go_loopw [1, 5, 6] (fun v1 v5 v6 W => ∃ (e a k : Nat) (l : List Int), e ≤ 11 ∧ v6 = .int .i64 (hv e : Int) ∧ v5 = .int .i64 (a : Int) ∧ v1 = .int .i64 (k : Int) ∧ a ≤ n ∧ k ≤ i ∧ Hid (TP n pl i e l a k ∧ W.ownsRow B 3 1 (.slice (some ⟨g, 0, none⟩) (n + 1) c) (n + 1) (zc l) ∧ Mv w1 W (fun k => k = g))) (fun _ _ v6 _ => (intOf v6).toNat)
  case atStart => exact ⟨E, 0, i, l, HE.out.2, rfl, rfl, rfl, Nat.zero_le _, Nat.le_refl _, T0.out⟩
  case round =>
    obtain ⟨e, a, k, l, he, rfl, rfl, rfl, ha, hk, HT⟩ := hrel
    clear T0
    cases e with
    | zero =>
      have h0 : hv 0 = 0 := rfl
      rw [h0]
      go_wp2_with fail
      go_ret
      obtain ⟨h1, h2, h3⟩ := HT.out
      obtain ⟨hi', h4, h5⟩ := h1.done
      refine ⟨l, ?_, ?_, h5, h3⟩
      · rw [← h4]
        rfl
      · unfold Rw
        rw [h5.1]
        exact h2
    | succ e =>
      have hHH : hv (e + 1) ≤ 1024 ∧ 1 ≤ hv (e + 1) := ⟨(wrap_hv (e + 1) (by omega) he).2, by rw [hv_succ]; exact Nat.two_pow_pos e⟩
      have hst := HT.out.1.step HP.out
      rw [← hv_succ e] at hst
      have hdiv : hv e = hv (e + 1) / 2 := by rw [hv_succ, hv_half]
      obtain ⟨H, hH⟩ : ∃ H, H = hv (e + 1) := ⟨_, rfl⟩
      rw [← hH] at hHH hst hdiv ⊢
      obtain ⟨hH2, hH1⟩ := hHH
      have HST := hide hst
      have HDV := hide hdiv
      have hn := HN.out
      have hpn := HPN.out
      have u1 : 0 < H := by omega
      have u2 : a + H ≤ 9223372036854775807 := by omega
      have HB : Hid (a ≤ n ∧ k ≤ i ∧ e ≤ 11 ∧ n ≤ 1000 ∧ pl.length ≤ 1000 ∧ H ≤ 1024) := ⟨ha, hk, by omega, hn, hpn, hH2⟩
      have v1 : ((H : Int) / 2) = (hv e : Int) := by rw [HDV.out]; omega
      have v2 : (hv e : Int).toNat < (H : Int).toNat := by have := HDV.out; omega
      have V1 := hide v1
      have V2 := hide v2
      clear hst hdiv hH hn hpn hH2 hH1 he hk ha v1 v2
      by_cases c1 : n + 1 ≤ a + H
      · have u3 : (a : Int) + (H : Int) ≥ (n : Int) + 1 := by omega
        go_wp2_with fail
        refine ⟨⟨e, a, k, l, HB.out.2.2.1, by rw [V1.out], rfl, rfl, HB.out.1, HB.out.2.1, HST.out.1 c1, HT.out.2⟩, ?_⟩
        rw [V1.out]
        exact V2.out
      · have u3 : ¬ (a : Int) + (H : Int) ≥ (n : Int) + 1 := by omega
        have hlt : a + H ≤ n := by omega
        obtain ⟨g1, g2, g3⟩ := HST.out.2 hlt
        have hrow := HT.out.2.1
        have hll : l.length = n + 1 := by have := hrow.1; rw [zc_len] at this; omega
        have hce := hrow.cellAt (a + H) (by omega)
        have hzz : (zc l)[a + H]? = some (.int .i64 (cnt pl a (a + H) : Int)) := by
          simp only [zc, List.getElem?_map, g1]
          rfl
        rw [hzz] at hce
        have hfz := hrow.frozenAt (a + H)
        have hcl := cnt_le pl a (a + H)
        have u4 : cnt pl a (a + H) ≤ 9223372036854775807 := by have := HB.out; omega
        have u5 : k ≤ 9223372036854775807 := by have := HB.out; have := HIP.out; omega
        have G2 := hide g2
        have G3 := hide g3
        have NW : Hid (∀ x : Int, (wr.setCell ⟨g, a + H, none⟩ (.int .i64 x)).ownsRow B 3 1 (.slice (some ⟨g, 0, none⟩) (n + 1) c) (n + 1) (zc (l.set (a + H) x)) ∧ Mv w1 (wr.setCell ⟨g, a + H, none⟩ (.int .i64 x)) (fun k => k = g)) := fun x => by
          refine ⟨?_, HT.out.2.2.set (g := g) rfl (a + H) _⟩
          have := (hrow.stored (a + H) (.int .i64 x)).1
          rwa [zc_set] at this
        clear g1 g2 g3 hrow hzz hll hcl HST
        have u6 : (a : Int) + (H : Int) < (n : Int) + 1 := by omega
        obtain ⟨x, hx⟩ : ∃ x, x = cnt pl a (a + H) := ⟨_, rfl⟩
        rw [← hx] at hce u4 G2 G3
        clear hx
        by_cases c2 : x ≤ k
        · have u7 : (x : Int) ≤ (k : Int) := by omega
          have hkx : (k : Int) - (x : Int) = ((k - x : Nat) : Int) := by omega
          have HKX := hide hkx
          clear hkx
          have G2' := hide (G2.out u7)
          rw [HKX.out] at G2'
          clear G2 G3 NW
          go_wp2_with fail
          refine ⟨⟨e, a + H, k - x, l, HB.out.2.2.1, by rw [V1.out], by rw [Int.natCast_add], by rw [HKX.out], by omega, by have := HB.out; omega, G2'.out, HT.out.2⟩, ?_⟩
          rw [V1.out]
          exact V2.out
        · have u7 : ¬ (x : Int) ≤ (k : Int) := by omega
          have G3' := hide (G3.out u7)
          clear G2 G3
          go_wp2_with fail
          refine ⟨⟨e, a, k, l.set (a + H) ((x : Int) - 1), HB.out.2.2.1, by rw [V1.out], rfl, rfl, HB.out.1, HB.out.2.1, G3'.out, NW.out _⟩, ?_⟩
          rw [V1.out]
          exact V2.out
end Go.Proofs.Ythgjdmomcpcolaa
