/-
  Plan: Stages.
-/
import Derived.Test.YthgjdmomcpcolaaNe
namespace Go.Proofs.Ythgjdmomcpcolaa
open Go.RowKit
set_option maxRecDepth 100000
/-- The stages of a plan, as they lie in memory. -/
theorem Pl.stages {w : World} {B g : Nat} {L : List Sy} (h : Pl w B g L) : ∃ ao c rs sts, w.cell? ⟨g, 1, none⟩ = some (.slice ao rs.length c) ∧ Ss w B (.slice ao rs.length c) rs sts ∧ StOf L L.length sts ∧ rs.length = sts.length ∧ sts.length ≤ L.length ∧ L.length ≤ 1000 ∧ rs.length ≤ c ∧ c ≤ 9223372036854775807 := by
  obtain ⟨va, vs, vt, rs, sts, h1, h2, h3, h4, h5, h6, h7⟩ := h
  obtain ⟨ao, c, rfl⟩ := own_len h3.1
  have hc := own_cap h3.1
  refine ⟨ao, c, rs, sts, ?_, h3, h4, h3.2.1, h4.few, h6, hc.1, hc.2⟩
  rw [cell_of_row w _ _ _ 66 (0, 0) h1]; rfl
theorem StOf.unique {L : List Sy} {n : Nat} {a b : List (List Nat)} (ha : StOf L n a) (hb : StOf L n b) : a = b := by
  have hl : a.length = b.length := by
    rcases Nat.lt_trichotomy a.length b.length with h | h | h
    · have h1 := (hb.2 a.length h).1
      have h2 := (hb.2 a.length h).2
      exfalso
      apply h2
      rw [h1, List.filter_eq_nil_iff]
      intro k hk
      have := ha.1 k (List.mem_range.1 hk)
      rw [beq_iff_eq]
      omega
    · exact h
    · have h1 := (ha.2 b.length h).1
      have h2 := (ha.2 b.length h).2
      exfalso
      apply h2
      rw [h1, List.filter_eq_nil_iff]
      intro k hk
      have := hb.1 k (List.mem_range.1 hk)
      rw [beq_iff_eq]
      omega
  rw [ha.eq, hb.eq, hl]
/-- Under way: the first i stages are copied. -/
def Sw (w : World) (go : Nat) (sts : List (List Nat)) (i : Nat) (W : World) : Prop :=
  ∃ rs : List Value, rs.length = sts.length ∧ W.ownsRow w.heap.size 23 1 (.slice (some ⟨go, 0, none⟩) sts.length sts.length) sts.length rs ∧ (∀ j (h1 : j < rs.length) (h2 : j < sts.length), j < i → Rw W w.heap.size rs[j] (up sts[j])) ∧ (∀ j k (h1 : j < rs.length) (h2 : k < rs.length), j < i → k < i → j ≠ k → Ap rs[j] rs[k]) ∧ Below w.heap.size w W ∧ w.heap.size ≤ go
theorem Sw.put {w W W' : World} {go : Nat} {sts : List (List Nat)} {i : Nat} {r : Value} (h : Sw w go sts i W) (hi : i < sts.length) (hb : Below W.heap.size W W') (hr : Rw W' W.heap.size r (up sts[i])) : Sw w go sts (i + 1) (W'.setCell ⟨go, i, none⟩ r) := by
  obtain ⟨rs, h1, h2, h3, h4, h5, h6⟩ := h
  have hmv : Mv W (W'.setCell ⟨go, i, none⟩ r) (fun k => k = go) := (Mv.of_below hb (fun k => k = go)).set (g := go) rfl i r
  have hmv' : Mv W' (W'.setCell ⟨go, i, none⟩ r) (fun k => k = go) := (Mv.refl W' (fun k => k = go)).set (g := go) rfl i r
  have ho' := own_later h2 hb
  have hset := (ho'.stored i r).1
  have nb : ∀ {Wx : World} {x : Value} {lx : List Int} {B : Nat}, Rw Wx B x lx → (∃ xs, Wx.ownsRow w.heap.size 23 1 (.slice (some ⟨go, 0, none⟩) sts.length sts.length) sts.length xs) → ∀ k, x.ownBlock = some k → ¬ k = go := fun hx ⟨xs, ho⟩ k hk e => own_apart ho hx (by decide) k (by rw [e]; rfl) hk
  have hap : ∀ j (hj : j < rs.length), j < i → Ap rs[j] r := fun j hj hji q k1 k2 => by
    have := (hr.lt q k2).1
    have := ((h3 j hj (by omega) hji).lt q k1).2
    omega
  refine ⟨rs.set i r, by simp [h1], hset, fun j j1 j2 hj => ?_, fun j k j1 j2 hj hk hjk => ?_, ?_, h6⟩
  · rw [List.getElem_set]
    by_cases e : i = j
    · subst e
      rw [if_pos rfl]
      exact hmv'.own (own_lower hr h5.size) (nb hr ⟨_, ho'⟩)
    · rw [if_neg e]
      have hj1 : j < rs.length := by simpa using j1
      have h9 := h3 j hj1 j2 (by omega)
      exact hmv.own h9 (nb h9 ⟨_, h2⟩)
  · have hj1 : j < rs.length := by simpa using j1
    have hk1 : k < rs.length := by simpa using j2
    rw [List.getElem_set, List.getElem_set]
    by_cases e1 : i = j
    · rw [if_pos e1, if_neg (by omega)]
      exact (hap k hk1 (by omega)).symm
    · rw [if_neg e1]
      by_cases e2 : i = k
      · rw [if_pos e2]
        exact hap j hj1 (by omega)
      · rw [if_neg e2]
        exact h4 j k hj1 hk1 (by omega) (by omega) hjk
  · exact h5.trans (hmv.below h5.size (fun k e => by rw [e]; exact h6))
set_option maxHeartbeats 4000000 in
theorem stages_any {w : World} {B g : Nat} {L : List Sy} (h : Pl w B g L) : Calls Try.prog 18 #[.pointer (some ⟨g, 0, none⟩)] w fun e w' => ∃ v rs sts, e = .returned v ∧ Ss w' w.heap.size v rs sts ∧ StOf L L.length sts ∧ Below w.heap.size w w' := by
  obtain ⟨ao, c, rs, sts, c1, hS, hSt, hrl, hfew, hL, hc1, hc2⟩ := h.stages
  have h2 : ∀ W, Below w.heap.size w W → W.cell? ⟨g, 1, none⟩ = some (.slice ao rs.length c) := fun W hb => (World.cell?_of_block (hb.block g (World.block_lt_of_cell? w _ c1))).trans c1
  have H2 := hide h2
  have HS := hide hS
  have HST := hide hSt
  have HLS : Hid (sts.length ≤ 1000) := by unfold Hid; omega
  have HLL := hide hL
  rw [hrl] at c1 hS hc1
  have HRL := hide hrl
  have h2' : ∀ W, Below w.heap.size w W → W.cell? ⟨g, 1, none⟩ = some (.slice ao sts.length c) := hrl ▸ h2
  have H2' := hide h2'
  obtain ⟨i0, hi0, hz0, hz1, hz2⟩ := info_parts info23
  clear h hS hSt hrl hfew hL h2 H2 h2'
  go_enter Try.func18, Try.ntmps18
  go_wp2_with (at_make; refine wpList_make_full _ rfl _ _ 32 rfl w.heap.size 23 i0 (.slice none 0 0) 1 Try.underlying32 hi0 hz0 hz1 .i64 .i64 _ _ sts.length rfl rfl ?c1 ?c2 ?c3 ?c4 ?c5 ?_)
  case c1 => rfl
  case c2 => rfl
  case c3 => have := HLS.out; rw [hz2]; omega
  case c4 => have := HLS.out; unfold maxLen; omega
  case c5 => omega
  intro w1 hown hgrow
  have hb1 : Below w.heap.size w w1 := (Below.refl _ w).grown hgrow (Nat.le_refl _) (fun k e => by cases e)
  have S0 : Hid (Sw w w.heap.size sts 0 w1) := ⟨_, by have := hown.1; omega, hown, fun j _ _ hj => by omega, fun j k _ _ hj => by omega, hb1, Nat.le_refl _⟩
  have k1 := H2'.out w1 hb1
  clear hown hgrow hb1 c1
  go_wp2_with fail
  obtain ⟨go, hgo⟩ : ∃ X, X = w.heap.size := ⟨_, rfl⟩
  rw [← hgo]
  have S0 : Hid (Sw w go sts 0 w1) := by rw [hgo]; exact S0.out
  clear hgo k1
  go_loopw [17] (fun v17 W => ∃ i : Nat, i ≤ sts.length ∧ v17 = .int .i64 (i : Int) ∧ Hid (Sw w go sts i W)) (fun v17 _ => sts.length - (intOf v17).toNat)
  case atStart => exact ⟨0, Nat.zero_le _, rfl, S0.out⟩
  case round =>
    obtain ⟨i, hi, rfl, HN⟩ := hrel
    clear S0
    by_cases hlt : i < sts.length
    · have t1 : (i : Int) < (sts.length : Int) := by omega
      have hri : i < rs.length := by have := HRL.out; omega
      have hbW : Below w.heap.size w wr := HN.out.choose_spec.2.2.2.2.1
      have hSW := HS.out.later hbW
      obtain ⟨gv, cv', e0, -⟩ := own_form hSW.1 (by omega)
      simp only [Value.slice.injEq] at e0
      obtain ⟨rfl, -, rfl⟩ := e0
      have e1 := hSW.1.cellAt i (by omega)
      rw [List.getElem?_eq_getElem hri] at e1
      have hrow := hSW.2.2.1 i hri hlt
      have hlen : sts[i].length ≤ 1000 := by
        have := HST.out.short hlt
        obtain ⟨va, hh⟩ : ∃ x, x = L.length := ⟨_, rfl⟩
        have := HLL.out
        omega
      have JC := hide (clone_nums hrow (by rw [up_len]; omega))
      obtain ⟨ar, cr, hv⟩ := own_len hrow
      rw [hv] at e1 JC
      have FIN : Hid (∀ r W', Below wr.heap.size wr W' → Rw W' wr.heap.size r (up sts[i]) → Sw w go sts (i + 1) (W'.setCell ⟨go, i, none⟩ r)) := fun r W' hb hr => HN.out.put hlt hb hr
      have ROW : Hid (∀ V, Below wr.heap.size wr V → (∃ u, V.cell? ⟨go, i, none⟩ = some u) ∧ V.frozen? ⟨go, i, none⟩ = false) := fun V hV => by
        obtain ⟨rs', h1, h2, -⟩ := HN.out
        have ho := own_later h2 hV
        exact ⟨⟨rs'[i]'(by omega), by rw [ho.cellAt i (by omega), List.getElem?_eq_getElem]⟩, ho.frozenAt i⟩
      clear hSW hrow hlen hv hbW
      go_wp2_with fail
      refine JC.out.mono ?_
      rintro e w3 ⟨v3, rfl, h3, b3⟩
      obtain ⟨a3, c3, rfl⟩ := own_len h3
      obtain ⟨⟨u, hu⟩, hf⟩ := ROW.out w3 b3
      have HR := hide (FIN.out _ w3 b3 h3)
      clear h3 b3
      go_wp2_with fail
      go_roundw
      case rel => exact ⟨i + 1, by omega, rfl, HR.out⟩
      case measure => simp only [intOf]; omega
    · have t1 : ¬ (i : Int) < (sts.length : Int) := by omega
      obtain rfl : i = sts.length := by omega
      go_wp2_with fail
      go_ret
      obtain ⟨rs', h1, h2, h3, h4, h5, h6⟩ := HN.out
      exact ⟨_, rfl, rs', sts, ⟨by rw [h1]; exact h2, h1, fun j j1 j2 => h3 j j1 j2 j2, fun j k j1 k1 hjk => h4 j k j1 k1 (by omega) (by omega) hjk⟩, HST.out, h5⟩
end Go.Proofs.Ythgjdmomcpcolaa
