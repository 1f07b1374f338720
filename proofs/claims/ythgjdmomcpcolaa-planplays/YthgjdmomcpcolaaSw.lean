/-
  PlanSwaps: two neighbours change places in a legal order.
-/
import Derived.Test.YthgjdmomcpcolaaSh
namespace Go.Proofs.Ythgjdmomcpcolaa
open Go.RowKit
set_option maxRecDepth 100000
/-! ### Plain -/
theorem pair_split (o : List Int) (k : Nat) (h : k + 1 < o.length) : ∃ A B, o = A ++ o[k] :: o[k + 1] :: B ∧ (o.set k o[k + 1]).set (k + 1) o[k] = A ++ o[k + 1] :: o[k] :: B := by
  have e : o = o.take k ++ o[k] :: o[k + 1] :: o.drop (k + 2) := by
    conv => lhs; rw [← List.take_append_drop k o, List.drop_eq_getElem_cons (by omega), List.drop_eq_getElem_cons h]
  refine ⟨o.take k, o.drop (k + 2), e, ?_⟩
  have hl : (o.take k).length = k := by simp; omega
  obtain ⟨x, hx⟩ : ∃ x, x = o[k] := ⟨_, rfl⟩
  obtain ⟨y, hy⟩ : ∃ y, y = o[k + 1] := ⟨_, rfl⟩
  rw [← hx, ← hy] at e ⊢
  obtain ⟨A, hA⟩ : ∃ A, A = o.take k := ⟨_, rfl⟩
  rw [← hA] at e hl ⊢
  obtain ⟨B, hB⟩ : ∃ B, B = o.drop (k + 2) := ⟨_, rfl⟩
  rw [← hB] at e ⊢
  clear hx hy hA hB
  subst hl
  subst e
  rw [List.set_append_right _ _ (Nat.le_refl _), Nat.sub_self, List.set_cons_zero, List.set_append_right _ _ (by omega), show A.length + 1 - A.length = 0 + 1 by omega, List.set_cons_succ, List.set_cons_zero]
theorem Lg.swapAt {L : List Sy} {o : List Int} (h : Lg L o) (k : Nat) (hk : k + 1 < o.length) : Lg L ((o.set k o[k + 1]).set (k + 1) o[k]) ↔ cn L o[k].toNat o[k + 1].toNat = false := by
  obtain ⟨A, B, e1, e2⟩ := pair_split o k hk
  rw [e2]
  exact Lg.swap (e1 ▸ h)
theorem Lg.cz {L : List Sy} {o : List Int} (h : Lg L o) (k : Nat) (hk : k + 1 < o.length) : cz L o[k] o[k + 1] = cn L o[k].toNat o[k + 1].toNat ∧ cz L o[k + 1] o[k] = cn L o[k].toNat o[k + 1].toNat := by
  have h1 := h.2.1 o[k] (List.getElem_mem _)
  have h2 := h.2.1 o[k + 1] (List.getElem_mem _)
  have h3 := (List.pairwise_iff_getElem.1 h.2.2 k (k + 1) (by omega) hk (by omega)).1
  refine ⟨?_, ?_⟩
  · unfold Ythgjdmomcpcolaa.cz
    rw [decide_eq_true ⟨h3, h1, h2⟩, Bool.true_and]
  · unfold Ythgjdmomcpcolaa.cz
    rw [decide_eq_true ⟨fun e => h3 e.symm, h2, h1⟩, Bool.true_and, cn_symm]
theorem Lg.notTwice {L : List Sy} {o : List Int} (hk : 1 < o.length) : ¬ Lg L (o.set 0 o[1]) := by
  match o, hk with
  | x :: y :: t, _ => exact Lg.twice
theorem ordR_full {sts : List (List Nat)} {n : Nat} {ps : List Int} (h : ps.length = n) : ordR sts n ps = ordS sts ps := by
  unfold ordR
  by_cases c : ps = []
  · subst c
    have : n = 0 := h.symm
    subst this
    simp
  · rw [if_neg c, if_pos h]
theorem order_full {w : World} {B g : Nat} {L : List Sy} {vp : Value} {ps : List Int} {sts : List (List Nat)} (h : Pl w B g L) (hs : StOf L L.length sts) (hp : Rl w vp ps) (hok : okPs sts ps) (hl : ps.length = L.length) : Calls Try.prog 19 #[.pointer (some ⟨g, 0, none⟩), vp] w fun e w' => ∃ v o, e = .returned (.tuple #[v, .int .i64 0]) ∧ Rw w' w.heap.size v o ∧ Lg L o ∧ Below w.heap.size w w' := by
  refine (order_any h hp).mono ?_
  rintro e w' ⟨sts', hs', ho, hb⟩
  obtain rfl := StOf.unique hs' hs
  obtain ⟨a, ha⟩ := ordS_ok _ _ hok
  rw [ordR_full hl, ha] at ho
  obtain ⟨v, rfl, hv⟩ := ho
  exact ⟨v, up a, rfl, hv, Lg.order hs hl ha, hb⟩
theorem sysL_len (l : List Sy) : (sysL l).length = min l.length 200 := by
  rw [sysL, List.length_map, trs_len, Nat.min_comm]
theorem min_200 (P : Program) (w : World) (ts : Array TypeId) (t : TypeId) (x : Nat) : (Builtin.min_ ts t #[.int .i64 (x : Int), .int .i64 200]).run P w = .ok (.int .i64 ((min x 200 : Nat) : Int)) w := by
  rw [run_min_int2]
  congr 2
  split <;> omega
theorem Rw.cells {w : World} {B g c n : Nat} {l : List Int} (h : Rw w B (.slice (some ⟨g, 0, none⟩) n c) l) (i : Nat) (hi : i < l.length) : w.cell? ⟨g, i, none⟩ = some (.int .i64 l[i]) := by
  obtain ⟨a, c', e⟩ := own_len h
  simp only [Value.slice.injEq] at e
  obtain ⟨-, rfl, -⟩ := e
  exact h.at i hi
/-- A row with nothing in it, in a block of its own. -/
theorem Rw.none (w : World) (B : Nat) (hB : B ≤ w.heap.size) : (w.alloc (.cells #[] 3)).ownsRow B 3 1 (.slice (some ⟨w.heap.size, 0, Option.none⟩) 0 0) 0 [] :=
  ⟨rfl, .inr ⟨w.heap.size, 0, #[], rfl, hB, heap_alloc_new w _, Nat.le_refl _, Nat.zero_le _, rfl, rfl⟩⟩
theorem Rw.set2 {w : World} {B g c : Nat} {l : List Int} (h : Rw w B (.slice (some ⟨g, 0, Option.none⟩) l.length c) l) (i j : Nat) (x y : Int) : Rw ((w.setCell ⟨g, i, Option.none⟩ (.int .i64 x)).setCell ⟨g, j, Option.none⟩ (.int .i64 y)) B (.slice (some ⟨g, 0, Option.none⟩) l.length c) ((l.set i x).set j y) := by
  have h1 := h.set i x
  have h2 : Rw (w.setCell ⟨g, i, Option.none⟩ (.int .i64 x)) B (.slice (some ⟨g, 0, Option.none⟩) (l.set i x).length c) (l.set i x) := by
    rw [List.length_set]
    exact h1
  have h3 := h2.set j y
  rw [List.length_set] at h3
  exact h3
theorem Rw.set1 {w : World} {B g c : Nat} {l : List Int} (h : Rw w B (.slice (some ⟨g, 0, Option.none⟩) l.length c) l) (i : Nat) (x : Int) : Rw (w.setCell ⟨g, i, Option.none⟩ (.int .i64 x)) B (.slice (some ⟨g, 0, Option.none⟩) l.length c) (l.set i x) := h.set i x
/-- Under way: an order in memory. -/
def Sz (w3 : World) (L : List Sy) (v : Value) (o : List Int) (W : World) : Prop := Rw W 0 v o ∧ Lg L o ∧ Below w3.heap.size w3 W
set_option maxHeartbeats 16000000 in
theorem swaps_any {w : World} {vl vr vs : Value} {l : List Sy} {raw swaps : List Int} (h : Sa w vl l) (hr : Rl w vr raw) (hraw : ∀ x ∈ raw, InI x) (hs : Rl w vs swaps) (hsi : ∀ x ∈ swaps, InI x) : Calls Try.prog 5 #[vl, vr, vs] w fun e w' => e = .returned (.bool true) ∧ Below w.heap.size w w' := by
  have H := hide h
  have HR := hide hr
  have HS0 := hide hs
  have HSI := hide hsi
  have HRI := hide hraw
  obtain ⟨al, cl, vs0, rfl, hl1, hl2, -⟩ := h
  obtain ⟨ar, cr, rfl, hr1, hr2, -⟩ := hr
  obtain ⟨aw, cs, rfl, hs1, hs2, -⟩ := hs
  obtain ⟨i0, hi0, hz0, hz1, hz2⟩ := info_parts info3
  clear hsi hraw
  go_enter Try.func5, Try.ntmps5
  go_wp2_with fail
  refine (shown_any w).mono ?_
  rintro e w1 ⟨rfl, b1⟩
  have B1 := hide b1
  clear b1
  go_wp2_with fail
  refine (made_any (H.out.later B1.out)).mono ?_
  rintro e w2 ⟨g, rfl, hP, b2⟩
  have B2 : Hid (Below w.heap.size w w2) := below_on B1.out b2
  have HP := hide hP
  clear hP b2 B1
  go_wp2_with fail
  refine (picked_any HP.out (HR.out.later B2.out) HRI.out).mono ?_
  rintro e wa ⟨vp, sts, ps, rfl, hst, hps, hok, hpl, ba⟩
  have HA : Hid (StOf (sysL l) (sysL l).length sts ∧ Rl wa vp ps ∧ okPs sts ps ∧ ps.length = (sysL l).length) := ⟨hst, Rl.of hps, hok, hpl⟩
  have BA := hide ba
  obtain ⟨ap, cp, rfl⟩ := own_len hps
  obtain ⟨hcp1, hcp2⟩ := own_cap hps
  clear hst hps hok hpl ba
  go_wp2_with fail
  refine (order_full (HP.out.later BA.out) HA.out.1 HA.out.2.1 HA.out.2.2.1 HA.out.2.2.2).mono ?_
  rintro e w3 ⟨v3, o0, rfl, ho, hLg, b3⟩
  have HB3 : Hid (Below w.heap.size w w3) := below_on B2.out (below_on BA.out b3)
  have HPL : Hid (Pl w3 w1.heap.size g (sysL l)) := (HP.out.later BA.out).later b3
  have hmin : ∀ W ts t, (Builtin.min_ ts t #[.int .i64 (l.length : Int), .int .i64 200]).run Try.prog W = .ok (.int .i64 (o0.length : Int)) W := fun W ts t => by
    rw [min_200, hLg.1, sysL_len]
  obtain ⟨L, hL⟩ : ∃ L, L = sysL l := ⟨_, rfl⟩
  rw [← hL] at HPL hLg
  have HV0 : Hid (Sz w3 L v3 o0 w3) := ⟨own_lower ho (Nat.zero_le _), hLg, Below.refl _ _⟩
  have HLL : Hid (L.length ≤ 200) := by
    unfold Hid
    rw [hL, sysL_len]
    omega
  have HSW : Hid (∀ W, Below w3.heap.size w3 W → Rl W (.slice aw swaps.length cs) swaps) := fun W hW => HS0.out.later (below_on HB3.out hW)
  obtain ⟨a3, c3, rfl⟩ := own_len ho
  obtain ⟨hc31, hc32⟩ := own_cap ho
  clear ho hLg b3 hL HA BA B2 HP HS0 H HR HRI
  go_wp2_with fail
  go_loopw [9, 11] (fun v9 v11 W => ∃ (i : Nat) (o : List Int), i ≤ swaps.length ∧ v11 = .int .i64 (i : Int) ∧ Hid (Sz w3 L v9 o W)) (fun _ v11 _ => swaps.length - (intOf v11).toNat)
  case atStart => exact ⟨0, o0, Nat.zero_le _, rfl, HV0.out⟩
  case round =>
    obtain ⟨i, o, hi, rfl, HS⟩ := hrel
    obtain ⟨h1, h2, h3⟩ := HS.out
    obtain ⟨a9, c9, rfl⟩ := own_len h1
    obtain ⟨hc9a, hc9b⟩ := own_cap h1
    have HRW := hide h1
    have HLG := hide h2
    have HBW := hide h3
    have HOL : Hid (o.length ≤ 200) := by
      unfold Hid
      rw [h2.1]
      exact HLL.out
    clear h1 h2 h3 hmin HV0 hc31 hc32
    by_cases hm1 : 1 < o.length
    · have t3 : (o.length : Int) > 1 := by omega
      by_cases hlt : i < swaps.length
      · have t1 : (i : Int) < (swaps.length : Int) := by omega
        by_cases h60 : i < 60
        · have t2 : (i : Int) < 60 := by omega
          obtain ⟨aw', cs', es, -, -, hsc⟩ := HSW.out wr HBW.out
          simp only [Value.slice.injEq, true_and] at es
          obtain ⟨rfl, rfl⟩ := es
          obtain ⟨gs, os, rfl, hcell⟩ := hsc (by omega)
          have e1 := hcell i hlt
          have hsx := HSI.out _ (List.getElem_mem hlt)
          obtain ⟨g9, c9', e9, -⟩ := own_form HRW.out (by omega)
          simp only [Value.slice.injEq] at e9
          obtain ⟨rfl, -, rfl⟩ := e9
          have hmm : (o.length : Int) - 1 = ((o.length - 1 : Nat) : Int) := by omega
          have JP : Hid (Calls Try.prog 21 #[.int .i64 swaps[i], .int .i64 ((o.length : Int) - 1)] wr fun e w' => e = .returned (.int .i64 (pickN swaps[i] (o.length - 1) : Int)) ∧ w' = wr) := by
            unfold Hid
            rw [hmm]
            exact pick_any _ _ wr (by omega) (by have := HOL.out; omega) hsx
          have hk : pickN swaps[i] (o.length - 1) < o.length - 1 := pickN_lt _ (by omega)
          generalize swaps[i] = sx at *
          obtain ⟨k, hke⟩ : ∃ k, k = pickN sx (o.length - 1) := ⟨_, rfl⟩
          rw [← hke] at JP hk
          have hkk : k + 1 < o.length := by omega
          have t5 : (k : Int) < (o.length : Int) := by omega
          have e2 := HRW.out.cells k (by omega)
          have e3 := HRW.out.cells (k + 1) hkk
          obtain ⟨hz1, hz2⟩ := HLG.out.cz k hkk
          have hsw := HLG.out.swapAt k hkk
          obtain ⟨c, hcd⟩ : ∃ c, c = cn L o[k].toNat o[k + 1].toNat := ⟨_, rfl⟩
          rw [← hcd] at hz1 hz2 hsw
          obtain ⟨N, hN⟩ : ∃ N, N = (o.set k o[k + 1]).set (k + 1) o[k] := ⟨_, rfl⟩
          rw [← hN] at hsw
          obtain ⟨x, hx⟩ : ∃ x, x = o[k] := ⟨_, rfl⟩
          obtain ⟨y, hy⟩ : ∃ y, y = o[k + 1] := ⟨_, rfl⟩
          rw [← hx] at e2 hz1 hz2 hN
          rw [← hy] at e3 hz1 hz2 hN
          obtain ⟨k1, hk1⟩ : ∃ q, q = k + 1 := ⟨_, rfl⟩
          rw [← hk1] at e3 hN
          have t6 : (k1 : Int) < (o.length : Int) := by omega
          have t8 : IntKind.i64.wrap ((k : Int) + 1) = (k1 : Int) := by
            have := HOL.out
            rw [IntKind.wrap_i64]
            omega
          have JC1 : Hid (∀ W, Below wr.heap.size wr W → Calls Try.prog 15 #[.pointer (some ⟨g, 0, none⟩), .int .i64 x, .int .i64 y] W fun e w' => e = .returned (.bool c) ∧ Below W.heap.size W w') := fun W hW => by
            have := conflict_any (HPL.out.later (below_on HBW.out hW)) x y
            rw [hz1] at this
            exact this
          have JC2 : Hid (∀ W, Below wr.heap.size wr W → Calls Try.prog 15 #[.pointer (some ⟨g, 0, none⟩), .int .i64 y, .int .i64 x] W fun e w' => e = .returned (.bool c) ∧ Below W.heap.size W w') := fun W hW => by
            have := conflict_any (HPL.out.later (below_on HBW.out hW)) y x
            rw [hz2] at this
            exact this
          have hg9 : g9 < wr.heap.size := World.block_lt_of_cell? wr _ e2
          have HC : Hid (∀ W, Below wr.heap.size wr W → W.cell? ⟨g9, k, none⟩ = some (.int .i64 x) ∧ W.cell? ⟨g9, k1, none⟩ = some (.int .i64 y)) := fun W hW => ⟨(World.cell?_of_block (hW.block g9 hg9)).trans e2, (World.cell?_of_block (hW.block g9 hg9)).trans e3⟩
          have SS : Hid (wr.cell? ⟨g9, k, none⟩ = some (.int .i64 x) ∧ wr.cell? ⟨g9, k1, none⟩ = some (.int .i64 y)) := ⟨e2, e3⟩
          have HC8 : Hid (∀ W c, ∀ q : Nat, Rw W w3.heap.size (.slice (some ⟨q, 0, none⟩) o.length c) o → W.cell? ⟨q, k, none⟩ = some (.int .i64 x) ∧ W.cell? ⟨q, k1, none⟩ = some (.int .i64 y)) := fun W c q hq => by
            have q1 := hq.at k (by omega)
            have q2 := hq.at (k + 1) hkk
            rw [hx, hy, hk1]
            exact ⟨q1, q2⟩
          have hkn : k1 ≠ k := by omega
          have hkn1 : ¬ k1 = k := hkn
          have hkn2 : ¬ k = k1 := by omega
          have HHW := hide hsw
          have HHN := hide hN
          have HHG := hide hg9
          clear hcell hsc hsx hmm hk hke hkk hz1 hz2 hsw hcd hx hy hN hg9 HS hk1
          go_wp2_with fail
          refine JP.out.mono ?_
          rintro e w5 ⟨rfl, rfl⟩
          go_wp2_with fail
          have hs3 := SS.out
          go_region_held3 (fun X => X.cell? ⟨g9, k, none⟩ = some (.int .i64 x) ∧ X.cell? ⟨g9, k1, none⟩ = some (.int .i64 y)) (first | exact SS.out | exact S6) ((go_at_call 15; refine (JC1.out _ (below_drew w5)).mono ?_; rintro e w6 ⟨rfl, b6⟩; have B6 := hide (below_on (below_drew w5) b6); have S6 := HC.out w6 B6.out; clear b6))
          have S6' := hide S6
          clear S6 hs3 e2 e3
          obtain ⟨e2, e3⟩ := S6'.out
          go_wp2_with fail
          have hs6 := S6'.out
          go_region_held3 (fun X => X.cell? ⟨g9, k, none⟩ = some (.int .i64 x) ∧ X.cell? ⟨g9, k1, none⟩ = some (.int .i64 y)) (first | exact S6'.out | exact S7) ((go_at_call 15; refine (JC2.out _ (below_on B6.out (below_drew w6))).mono ?_; rintro e w7 ⟨rfl, b7⟩; have B7 := hide (below_on B6.out (below_on (below_drew w6) b7)); have S7 := HC.out w7 B7.out; clear b7))
          clear S7 hs6 e2 e3
          go_wp2_with (at_builtin; refine wpList_append_nums rfl _ _ rfl w3.heap.size (.slice none 0 0) 0 [] rfl ⟨rfl, .inl ⟨rfl, rfl⟩⟩ (.slice (some ⟨g9, 0, none⟩) o.length c9) o rfl ((Rl.of HRW.out).later B7.out) ?pB1 ?pB2 ?_)
          case pB1 => have := HOL.out; omega
          case pB2 => exact (below_on HBW.out B7.out).size
          intro v8 w8 h8 hg8 hob
          have h8' : Rw w8 w3.heap.size v8 o := by
            simpa using h8
          obtain ⟨g8, c8, rfl, hc8a, hc8b⟩ := own_form h8' (by omega)
          have hg87 : g8 = w7.heap.size := by simpa [Value.ownBlock] using hob
          have b8 : Below w7.heap.size w7 w8 := (Below.refl _ w7).grown hg8 (Nat.le_refl _) (fun k e => by simp [Value.ownBlock] at e)
          have B8 : Hid (Below w5.heap.size w5 w8) := below_on B7.out b8
          obtain ⟨e2, e3⟩ := HC.out w8 B8.out
          obtain ⟨e4, e5⟩ := HC8.out w8 c8 g8 h8'
          have fz1 := h8'.frozenAt k
          have fz2 := h8'.frozenAt (k1)
          have hne : g9 ≠ g8 := by
            have := HHG.out
            have := B7.out.size
            omega
          have hne' : ¬ g9 = g8 := hne
          have HW9 : Hid (Rw ((w8.setCell ⟨g8, k, none⟩ (.int .i64 y)).setCell ⟨g8, k1, none⟩ (.int .i64 x)) 0 (.slice (some ⟨g8, 0, none⟩) o.length c8) N ∧ Rw ((w8.setCell ⟨g8, k, none⟩ (.int .i64 y)).setCell ⟨g8, k1, none⟩ (.int .i64 x)) 0 (.slice (some ⟨g9, 0, none⟩) o.length c9) o ∧ Below w3.heap.size w3 ((w8.setCell ⟨g8, k, none⟩ (.int .i64 y)).setCell ⟨g8, k1, none⟩ (.int .i64 x))) := by
            have hge : w3.heap.size ≤ g8 := by
              have := (below_on HBW.out B7.out).size
              omega
            refine ⟨?_, ?_, ?_⟩
            · rw [HHN.out]
              exact own_lower (Rw.set2 h8' k (k1) y x) (Nat.zero_le _)
            · have hn : (Value.slice (some ⟨g9, 0, none⟩) o.length c9).ownBlock ≠ some g8 := by simpa [Value.ownBlock] using hne
              exact own_set (own_set (own_later HRW.out B8.out) hn) hn
            · exact ((below_on HBW.out B8.out).setCell (p := ⟨g8, k, none⟩) hge _).setCell (p := ⟨g8, k1, none⟩) hge _
          clear h8 h8' hg8 hob b8 hg87 HC B6 B7 S6' SS JP JC1 JC2 B8 e1
          go_wp2_with fail
          obtain ⟨w9, hw9⟩ : ∃ X, X = (w8.setCell ⟨g8, k, none⟩ (.int .i64 y)).setCell ⟨g8, k1, none⟩ (.int .i64 x) := ⟨_, rfl⟩
          rw [← hw9] at HW9 ⊢
          clear hw9 e2 e3 e4 e5 fz1 fz2
          have HR9 := hide (Rl.of HW9.out.1)
          refine (legal_any (HPL.out.later HW9.out.2.2) HR9.out).mono ?_
          rintro e w10 ⟨bb, rfl, hbb, b10⟩
          have B10 := hide b10
          have hbc : bb = true ↔ c = false := hbb.trans HHW.out
          have HBB := hide hbb
          clear hbb b10
          cases c with
          | true =>
            obtain rfl : bb = false := by
              cases bb with
              | false => rfl
              | true => exact absurd (hbc.1 rfl) (by simp)
            have HF : Hid (Sz w3 L (.slice (some ⟨g9, 0, none⟩) o.length c9) o w10) := ⟨own_later HW9.out.2.1 B10.out, HLG.out, below_on HW9.out.2.2 B10.out⟩
            clear hbc
            go_wp2_with fail
            go_roundw
            case rel => exact ⟨i + 1, o, by omega, rfl, HF.out⟩
            case measure => simp only [intOf]; omega
          | false =>
            obtain rfl : bb = true := hbc.2 rfl
            have HF : Hid (Sz w3 L (.slice (some ⟨g8, 0, none⟩) o.length c8) N w10) := ⟨own_later HW9.out.1 B10.out, HBB.out.1 rfl, below_on HW9.out.2.2 B10.out⟩
            clear hbc
            go_wp2_with fail
            go_roundw
            case rel => exact ⟨i + 1, N, by omega, rfl, HF.out⟩
            case measure => simp only [intOf]; omega
        · have t2 : ¬ (i : Int) < 60 := by omega
          go_wp2_with (at_builtin; refine wpList_append_nums rfl _ _ rfl w3.heap.size (.slice (some ⟨wr.heap.size, 0, none⟩) 0 0) 0 [] rfl (Rw.none wr _ HBW.out.size) (.slice a9 o.length c9) o rfl ((Rl.of HRW.out).later (below_alloc wr _)) ?pA1 ?pA2 ?_)
          case pA1 => have := HOL.out; omega
          case pA2 => have := HBW.out.size; simp; omega
          intro v8 w8 h8 hg8 hob
          have h8' : Rw w8 w3.heap.size v8 o := by
            simpa using h8
          have b8 : Below wr.heap.size wr w8 := (below_alloc wr (.cells #[] 3)).grown hg8 (below_alloc wr _).size (fun k e => by simp only [Value.ownBlock, Option.some.injEq] at e; omega)
          have B8 := hide b8
          have H8 := hide h8'
          obtain ⟨g8, c8, rfl, hc8a, hc8b⟩ := own_form h8' (by omega)
          have HG8 : Hid (wr.heap.size ≤ g8) := by
            unfold Hid
            simp only [Value.ownBlock, Option.some.injEq] at hob
            omega
          have e0 := h8'.at 0 (by omega)
          have e1 := h8'.at 1 (by omega)
          have fz := h8'.frozenAt 0
          have HNX : Hid (Rw (w8.setCell ⟨g8, 0, none⟩ (.int .i64 o[1])) 0 (.slice (some ⟨g8, 0, none⟩) o.length c8) (o.set 0 o[1]) ∧ ¬ Lg L (o.set 0 o[1])) := ⟨own_lower (Rw.set1 h8' 0 _) (Nat.zero_le _), Lg.notTwice (by omega)⟩
          have HBX : Hid (∀ x : Value, Below wr.heap.size wr (w8.setCell ⟨g8, 0, none⟩ x)) := fun x => b8.setCell HG8.out x
          generalize o[1] = o1 at *
          generalize o[0] = o00 at *
          obtain ⟨N, hN⟩ : ∃ N, N = o.set 0 o1 := ⟨_, rfl⟩
          rw [← hN] at HNX
          clear h8 h8' hg8 b8 hob hN
          go_wp2_with fail
          have HNR := hide (Rl.of HNX.out.1)
          refine (legal_any (HPL.out.later (below_on HBW.out (HBX.out _))) HNR.out).mono ?_
          rintro e w9 ⟨bb, rfl, hbb, b9⟩
          obtain rfl : bb = false := by
            cases bb with
            | false => rfl
            | true => exact absurd (hbb.1 rfl) HNX.out.2
          have B9 : Hid (Below wr.heap.size wr w9) := below_on (HBX.out _) b9
          clear hbb b9
          go_wp2_with fail
          refine (legal_any (HPL.out.later (below_on HBW.out B9.out)) ((Rl.of HRW.out).later B9.out)).mono ?_
          rintro e w10 ⟨bb, rfl, hbb, b10⟩
          obtain rfl : bb = true := hbb.2 HLG.out
          clear hbb
          have B10 := hide b10
          clear b10
          go_wp2_with fail
          go_ret
          exact ⟨rfl, below_on HB3.out (below_on HBW.out (below_on B9.out B10.out))⟩
      · have t1 : ¬ (i : Int) < (swaps.length : Int) := by omega
        go_wp2_with (at_builtin; refine wpList_append_nums rfl _ _ rfl w3.heap.size (.slice (some ⟨wr.heap.size, 0, none⟩) 0 0) 0 [] rfl (Rw.none wr _ HBW.out.size) (.slice a9 o.length c9) o rfl ((Rl.of HRW.out).later (below_alloc wr _)) ?pA1 ?pA2 ?_)
        case pA1 => have := HOL.out; omega
        case pA2 => have := HBW.out.size; simp; omega
        intro v8 w8 h8 hg8 hob
        have h8' : Rw w8 w3.heap.size v8 o := by
          simpa using h8
        have b8 : Below wr.heap.size wr w8 := (below_alloc wr (.cells #[] 3)).grown hg8 (below_alloc wr _).size (fun k e => by simp only [Value.ownBlock, Option.some.injEq] at e; omega)
        have B8 := hide b8
        have H8 := hide h8'
        obtain ⟨g8, c8, rfl, hc8a, hc8b⟩ := own_form h8' (by omega)
        have HG8 : Hid (wr.heap.size ≤ g8) := by
          unfold Hid
          simp only [Value.ownBlock, Option.some.injEq] at hob
          omega
        have e0 := h8'.at 0 (by omega)
        have e1 := h8'.at 1 (by omega)
        have fz := h8'.frozenAt 0
        have HNX : Hid (Rw (w8.setCell ⟨g8, 0, none⟩ (.int .i64 o[1])) 0 (.slice (some ⟨g8, 0, none⟩) o.length c8) (o.set 0 o[1]) ∧ ¬ Lg L (o.set 0 o[1])) := ⟨own_lower (Rw.set1 h8' 0 _) (Nat.zero_le _), Lg.notTwice (by omega)⟩
        have HBX : Hid (∀ x : Value, Below wr.heap.size wr (w8.setCell ⟨g8, 0, none⟩ x)) := fun x => b8.setCell HG8.out x
        generalize o[1] = o1 at *
        generalize o[0] = o00 at *
        obtain ⟨N, hN⟩ : ∃ N, N = o.set 0 o1 := ⟨_, rfl⟩
        rw [← hN] at HNX
        clear h8 h8' hg8 b8 hob hN
        go_wp2_with fail
        have HNR := hide (Rl.of HNX.out.1)
        refine (legal_any (HPL.out.later (below_on HBW.out (HBX.out _))) HNR.out).mono ?_
        rintro e w9 ⟨bb, rfl, hbb, b9⟩
        obtain rfl : bb = false := by
          cases bb with
          | false => rfl
          | true => exact absurd (hbb.1 rfl) HNX.out.2
        have B9 : Hid (Below wr.heap.size wr w9) := below_on (HBX.out _) b9
        clear hbb b9
        go_wp2_with fail
        refine (legal_any (HPL.out.later (below_on HBW.out B9.out)) ((Rl.of HRW.out).later B9.out)).mono ?_
        rintro e w10 ⟨bb, rfl, hbb, b10⟩
        obtain rfl : bb = true := hbb.2 HLG.out
        clear hbb
        have B10 := hide b10
        clear b10
        go_wp2_with fail
        go_ret
        exact ⟨rfl, below_on HB3.out (below_on HBW.out (below_on B9.out B10.out))⟩
    · have t3 : ¬ (o.length : Int) > 1 := by omega
      by_cases hlt : i < swaps.length
      · have t1 : (i : Int) < (swaps.length : Int) := by omega
        by_cases h60 : i < 60
        · have t2 : (i : Int) < 60 := by omega
          go_wp2_with (at_builtin; refine wpList_append_nums rfl _ _ rfl w3.heap.size (.slice (some ⟨wr.heap.size, 0, none⟩) 0 0) 0 [] rfl (Rw.none wr _ HBW.out.size) (.slice a9 o.length c9) o rfl ((Rl.of HRW.out).later (below_alloc wr _)) ?pA1 ?pA2 ?_)
          case pA1 => have := HOL.out; omega
          case pA2 => have := HBW.out.size; simp; omega
          intro v8 w8 h8 hg8 hob
          have h8' : Rw w8 w3.heap.size v8 o := by
            simpa using h8
          have b8 : Below wr.heap.size wr w8 := (below_alloc wr (.cells #[] 3)).grown hg8 (below_alloc wr _).size (fun k e => by simp only [Value.ownBlock, Option.some.injEq] at e; omega)
          have B8 := hide b8
          have H8 := hide h8'
          obtain ⟨a8, c8, rfl⟩ := own_len h8'
          obtain ⟨hc8a, hc8b⟩ := own_cap h8'
          clear h8 h8' hg8 b8 hob
          go_wp2_with fail
          refine (legal_any (HPL.out.later (below_on HBW.out B8.out)) ((Rl.of HRW.out).later B8.out)).mono ?_
          rintro e w10 ⟨bb, rfl, hbb, b10⟩
          obtain rfl : bb = true := hbb.2 HLG.out
          clear hbb
          have B10 := hide b10
          clear b10
          go_wp2_with fail
          go_ret
          exact ⟨rfl, below_on HB3.out (below_on HBW.out (below_on B8.out B10.out))⟩
        · have t2 : ¬ (i : Int) < 60 := by omega
          go_wp2_with (at_builtin; refine wpList_append_nums rfl _ _ rfl w3.heap.size (.slice (some ⟨wr.heap.size, 0, none⟩) 0 0) 0 [] rfl (Rw.none wr _ HBW.out.size) (.slice a9 o.length c9) o rfl ((Rl.of HRW.out).later (below_alloc wr _)) ?pA1 ?pA2 ?_)
          case pA1 => have := HOL.out; omega
          case pA2 => have := HBW.out.size; simp; omega
          intro v8 w8 h8 hg8 hob
          have h8' : Rw w8 w3.heap.size v8 o := by
            simpa using h8
          have b8 : Below wr.heap.size wr w8 := (below_alloc wr (.cells #[] 3)).grown hg8 (below_alloc wr _).size (fun k e => by simp only [Value.ownBlock, Option.some.injEq] at e; omega)
          have B8 := hide b8
          have H8 := hide h8'
          obtain ⟨a8, c8, rfl⟩ := own_len h8'
          obtain ⟨hc8a, hc8b⟩ := own_cap h8'
          clear h8 h8' hg8 b8 hob
          go_wp2_with fail
          refine (legal_any (HPL.out.later (below_on HBW.out B8.out)) ((Rl.of HRW.out).later B8.out)).mono ?_
          rintro e w10 ⟨bb, rfl, hbb, b10⟩
          obtain rfl : bb = true := hbb.2 HLG.out
          clear hbb
          have B10 := hide b10
          clear b10
          go_wp2_with fail
          go_ret
          exact ⟨rfl, below_on HB3.out (below_on HBW.out (below_on B8.out B10.out))⟩
      · have t1 : ¬ (i : Int) < (swaps.length : Int) := by omega
        go_wp2_with (at_builtin; refine wpList_append_nums rfl _ _ rfl w3.heap.size (.slice (some ⟨wr.heap.size, 0, none⟩) 0 0) 0 [] rfl (Rw.none wr _ HBW.out.size) (.slice a9 o.length c9) o rfl ((Rl.of HRW.out).later (below_alloc wr _)) ?pA1 ?pA2 ?_)
        case pA1 => have := HOL.out; omega
        case pA2 => have := HBW.out.size; simp; omega
        intro v8 w8 h8 hg8 hob
        have h8' : Rw w8 w3.heap.size v8 o := by
          simpa using h8
        have b8 : Below wr.heap.size wr w8 := (below_alloc wr (.cells #[] 3)).grown hg8 (below_alloc wr _).size (fun k e => by simp only [Value.ownBlock, Option.some.injEq] at e; omega)
        have B8 := hide b8
        have H8 := hide h8'
        obtain ⟨a8, c8, rfl⟩ := own_len h8'
        obtain ⟨hc8a, hc8b⟩ := own_cap h8'
        clear h8 h8' hg8 b8 hob
        go_wp2_with fail
        refine (legal_any (HPL.out.later (below_on HBW.out B8.out)) ((Rl.of HRW.out).later B8.out)).mono ?_
        rintro e w10 ⟨bb, rfl, hbb, b10⟩
        obtain rfl : bb = true := hbb.2 HLG.out
        clear hbb
        have B10 := hide b10
        clear b10
        go_wp2_with fail
        go_ret
        exact ⟨rfl, below_on HB3.out (below_on HBW.out (below_on B8.out B10.out))⟩
end Go.Proofs.Ythgjdmomcpcolaa
