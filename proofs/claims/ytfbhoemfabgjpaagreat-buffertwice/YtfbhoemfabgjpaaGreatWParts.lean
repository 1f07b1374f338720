/-
  World: all parts of one that lives.
-/
import Derived.Test.YtfbhoemfabgjpaaGreatMgAJ
namespace Go.Proofs.YtfbhoemfabgjpaaGreat
open Go.RowKit
set_option maxRecDepth 100000
theorem parts_step (ks : List Kind) (s k : Nat) (hk : k < ks.length) (vals : List Int) : partsL (ks.drop k) s (k + 1) vals = if s.testBit (k + 1) then (k + 1, vals.take ks[k].2.length) :: partsL (ks.drop (k + 1)) s (k + 1 + 1) (vals.drop ks[k].2.length) else partsL (ks.drop (k + 1)) s (k + 1 + 1) vals := by
  rw [List.drop_eq_getElem_cons hk]
  rfl
theorem fsum_step (ks : List Kind) (s k : Nat) (hk : k < ks.length) : fsum (ks.drop k) s (k + 1) = (if s.testBit (k + 1) then ks[k].2.length else 0) + fsum (ks.drop (k + 1)) s (k + 1 + 1) := by
  rw [List.drop_eq_getElem_cons hk]
  rfl
/-- Numbers that are read: nil, or a place of their own. -/
def Jz (w : World) (v : Value) (l : List Int) : Prop :=
  (v = .slice none 0 0 ∧ l = []) ∨ ∃ g o c, v = .slice (some ⟨g, o, none⟩) l.length c ∧ l.length ≤ c ∧ c ≤ maxLen ∧ ∀ j (hj : j < l.length), w.cell? ⟨g, o + j, none⟩ = some (.int .i64 l[j])
theorem Jz.own {w : World} {v : Value} {l : List Int} {B : Nat} (h : w.ownsRow B 2 1 v l.length (zc l)) : Jz w v l := by
  rcases h.2 with ⟨rfl, hl⟩ | ⟨g, c, cur, rfl, -, hg, h1, h2, hcs, htake⟩
  · exact .inl ⟨rfl, List.eq_nil_of_length_eq_zero hl⟩
  · exact .inr ⟨g, 0, c, rfl, h1, h2, fun j hj => by rw [Nat.zero_add]; exact own_num h j hj⟩
theorem Jz.later {w w' : World} {v : Value} {l : List Int} (h : Jz w v l) (hb : Below w.heap.size w w') : Jz w' v l := by
  rcases h with h | ⟨g, o, c, rfl, h1, h2, h3⟩
  · exact .inl h
  · exact .inr ⟨g, o, c, rfl, h1, h2, fun j hj => (hb.cell (p := ⟨g, o + j, none⟩) (World.block_lt_of_cell? w _ (h3 j hj))).trans (h3 j hj)⟩
theorem take_iz {w : World} {g o c m : Nat} {l : List Int} (h1 : l.length ≤ c) (h2 : c ≤ maxLen) (h3 : ∀ j (hj : j < l.length), w.cell? ⟨g, o + j, none⟩ = some (.int .i64 l[j])) (hm : m ≤ l.length) : Iz w (.slice (some ⟨g, o, none⟩) m c) (l.take m) := by
  have hl : (l.take m).length = m := by rw [List.length_take]; omega
  refine ⟨some ⟨g, o, none⟩, c, by rw [hl], by omega, h2, fun j hj => ⟨g, o, rfl, ?_⟩⟩
  rw [List.getElem_take]
  exact h3 j (by omega)
theorem drop_jz {w : World} {g o c m : Nat} {l : List Int} (h1 : l.length ≤ c) (h2 : c ≤ maxLen) (h3 : ∀ j (hj : j < l.length), w.cell? ⟨g, o + j, none⟩ = some (.int .i64 l[j])) (hm : m ≤ l.length) (o' : Nat) (ho : m < l.length → o' = o + m) : Jz w (.slice (some ⟨g, o', none⟩) (l.length - m) (c - m)) (l.drop m) := by
  have hl : (l.drop m).length = l.length - m := by rw [List.length_drop]
  refine .inr ⟨g, o', c - m, by rw [hl], by omega, by omega, fun j hj => ?_⟩
  rw [ho (by omega), List.getElem_drop, Nat.add_assoc]
  exact h3 (m + j) (by omega)
theorem Pv.grown {B : Nat} {w w' : World} {L : List Pt} {R : List (Nat × List Int)} {row : Option Nat} (h : Pv B w L R) (hg : w.grownBy w' row) (hne : ∀ p ∈ L, ∀ k, (ptV p).ownBlock = some k → row ≠ some k) : Pv B w' L R := ⟨h.1, fun i h1 h2 => ⟨(h.2 i h1 h2).1, own_kept (h.2 i h1 h2).2 hg (hne _ (List.getElem_mem h1))⟩⟩
theorem pz_two (p : Pt) : pz [p] = [.int .i64 p.1, ptV p] := rfl
section
variable {w w' : World} {own : Nat → Nat} {gw gp gm gt M M' : Nat} {vk : Value} {ks : List Kind} {gs fr gs' fr' : List Nat} {f f' : Int × Int → Option Nat} {q q' : Nat → Option Nat} {T T' : Nat → Ts}
set_option maxHeartbeats 8000000 in
theorem parts_any (h : Wx 0 w own gw vk gp gm gt M ks gs fr f q T) (a b : Int) (hib : InB (a, b)) (hks : ks.length ≤ 12) (s g i : Nat) (hf : f (a, b) = some s) (hq : q s = some g) (hs : s < 8192) (hi : i < (T s).1.length) (hx : (T s).1[i] = (a, b)) (hcol : (T s).2.length = fsum ks s 1) :
    Calls Tryz.prog 54 #[.pointer (some ⟨gw, 0, none⟩), .agg #[.int .i64 a, .int .i64 b]] w fun e w' => ∃ v, e = .returned v ∧ ∃ L, w'.ownsRow w.heap.size 51 2 v L.length (pz L) ∧ Pv w.heap.size w' L (partsL ks s 1 (rowOf (T s).2 i)) ∧ Below w.heap.size w w' := by
  obtain ⟨i0, hi0, hz0, hz1, hz2⟩ := info_parts infoP
  have H := hide h
  have HQ := hide hq
  have HF := hide hf
  have HX : Hid (∃ hi : i < (T s).1.length, (T s).1[i] = (a, b)) := ⟨hi, hx⟩
  have h48 : (T s).2.length ≤ 48 := by
    obtain ⟨n, -, lab, vr, gm', vc, cs, f', -, -, -, -, -, -, hc⟩ := h.tb hq
    exact hc
  have HC := hide hcol
  have H48 := hide h48
  obtain ⟨row, hrow⟩ : ∃ X, X = rowOf (T s).2 i := ⟨_, rfl⟩
  rw [← hrow]
  have HROW := hide hrow
  clear h hq hf hi hx hcol h48 hrow
  go_enter Tryz.func54, Tryz.ntmps54
  go_upto_region 1 with fail
  obtain ⟨w1, hw1⟩ : ∃ X, X = w.alloc (.cells #[.int .i64 a, .int .i64 b] 34) := ⟨_, rfl⟩
  have B1 : Below w.heap.size w w1 := hw1 ▸ below_alloc w _
  have hx1 : w1.heap[w.heap.size]? = some (.cells #[.int .i64 a, .int .i64 b] 34 (0, 0)) := hw1 ▸ heap_alloc_new w _
  rw [← hw1]
  obtain ⟨kx, hkx⟩ : ∃ k, k = w.heap.size := ⟨_, rfl⟩
  rw [← hkx] at hx1 ⊢
  have HX1 : Hid (w1.heap[kx]? = some (.cells #[.int .i64 a, .int .i64 b] 34 (0, 0))) := hx1
  obtain ⟨p0, p1⟩ := kx_cells hx1 (Below.refl _ w1)
  have H1 := hide (H.out.later B1)
  have HB1 := hide B1
  have HKX : Hid (kx = w.heap.size) := hkx
  obtain ⟨c0, c1, c2, c3⟩ := H1.out.cells
  have hlk := (H1.out.later (below_drew w1)).mp.look1 a b hib HF.out
  clear hx1 hw1 hkx B1
  refine wp_region_noPanic ?_
  refine wp_region_late (J := fun i => i != 99) (S := fun W => W.cell? ⟨gw, 2, none⟩ = some (.map (some gm)) ∧ W.cell? ⟨kx, 0, none⟩ = some (.int .i64 a) ∧ W.cell? ⟨kx, 1, none⟩ = some (.int .i64 b)) (by kernel_rfl) ⟨c2, p0, p1⟩ (fun hHeld => ?_)
  refine' wpAnyJ_takeW (i := 0) (oi := { dst := some 13, op := Op.move (Operand.tmp 0), type := 26, pos := "world.go:195", after := #[], guard := none }) (v := _) rfl (by kernel_rfl) (by kernel_rfl) (by kernel_rfl) (fun _ _ _ h => h) (Or.inl ⟨by rfl, ?hyA1⟩) ?reA1
  case hyA1 => (intro W hSw; (try dsimp only at hSw); go_simp; try with_reducible rfl)
  try simp only [Act.put, List.setIfInBounds_toArray, List.set_cons_zero, List.set_cons_succ]
  refine' wpAnyJ_takeW (i := 1) (oi := { dst := some 14, op := Op.nilCheck (Operand.tmp 13), type := 0, pos := "world.go:195", after := #[{ on := 0, ground := Ground.data }], guard := none }) (v := _) rfl (by kernel_rfl) (by kernel_rfl) (by kernel_rfl) (fun _ _ _ h => h) (Or.inl ⟨by rfl, ?hyA2⟩) ?reA2
  case hyA2 => (intro W hSw; (try dsimp only at hSw); go_simp; try with_reducible rfl)
  try simp only [Act.put, List.setIfInBounds_toArray, List.set_cons_zero, List.set_cons_succ]
  refine' wpAnyJ_takeW (i := 2) (oi := { dst := some 15, op := Op.fieldAddr 64 (Operand.tmp 14) 2, type := 0, pos := "world.go:195", after := #[{ on := 1, ground := Ground.data }], guard := none }) (v := _) rfl (by kernel_rfl) (by kernel_rfl) (by kernel_rfl) (fun _ _ _ h => h) (Or.inl ⟨by rfl, ?hyA3⟩) ?reA3
  case hyA3 => (intro W hSw; (try dsimp only at hSw); go_simp; try with_reducible rfl)
  try simp only [Act.put, List.setIfInBounds_toArray, List.set_cons_zero, List.set_cons_succ]
  refine' wpAnyJ_take (i := 3) (oi := { dst := some 16, op := Op.load 61 (Operand.tmp 15), type := 61, pos := "world.go:195", after := #[{ on := 2, ground := Ground.data }], guard := none }) (v := _) rfl (by kernel_rfl) (by kernel_rfl) (by kernel_rfl) (by kernel_rfl) (fun _ _ _ h => h) (Or.inl ⟨by rfl, ?hyA4⟩) (by assumption) ?reA4
  case hyA4 => (intro W hSw; (try dsimp only at hSw); go_simp; try with_reducible rfl)
  try simp only [Act.put, List.setIfInBounds_toArray, List.set_cons_zero, List.set_cons_succ]
  refine' wpAnyJ_take (i := 4) (oi := { dst := some 17, op := Op.load 34 (Operand.tmp 3), type := 34, pos := "world.go:195", after := #[], guard := none }) (v := _) rfl (by kernel_rfl) (by kernel_rfl) (by kernel_rfl) (by kernel_rfl) (fun _ _ _ h => h) (Or.inl ⟨by rfl, ?hyA5⟩) (by assumption) ?reA5
  case hyA5 => (intro W hSw; (try dsimp only at hSw); go_simp; try with_reducible rfl)
  try simp only [Act.put, List.setIfInBounds_toArray, List.set_cons_zero, List.set_cons_succ]
  refine wpAnyJ_ready (rs := [5]) (by kernel_rfl) (by simp) ?_
  refine AllReadyJ.cons (o := { dst := some 18, op := Op.lookup 61 (Operand.tmp 16) (Operand.tmp 17) false, type := 3, pos := "world.go:195", after := #[{ on := 3, ground := Ground.data }, { on := 4, ground := Ground.data }], guard := none }) rfl (fun K hK => ?_) AllReadyJ.nil
  go_simp
  refine hK.out _ _ (fun _ _ => ⟨c2, p0, p1⟩) ?_
  clear hK K
  try simp only [Act.put, List.setIfInBounds_toArray, List.set_cons_zero, List.set_cons_succ]
  refine' wpAnyJ_takeW (i := 6) (oi := { dst := some 5, op := Op.assign (Operand.tmp 18), type := 3, pos := "world.go:195", after := #[{ on := 5, ground := Ground.data }, { on := 0, ground := Ground.phase }, { on := 1, ground := Ground.phase }, { on := 2, ground := Ground.phase }, { on := 3, ground := Ground.phase }, { on := 4, ground := Ground.phase }, { on := 5, ground := Ground.phase }], guard := none }) (v := _) rfl (by kernel_rfl) (by kernel_rfl) (by kernel_rfl) (fun _ _ _ h => h) (Or.inl ⟨by rfl, ?hyA6⟩) ?reA6
  case hyA6 => (intro W hSw; (try dsimp only at hSw); go_simp; try with_reducible rfl)
  try simp only [Act.put, List.setIfInBounds_toArray, List.set_cons_zero, List.set_cons_succ]
  refine wpAnyJ_done (by kernel_rfl) ?_ _
  refine NoPanic.normal ?_
  obtain ⟨w2, hw2⟩ : ∃ X, X = w1.drew := ⟨_, rfl⟩
  rw [← hw2]
  have B2 : Hid (Below w.heap.size w w2) := hw2 ▸ below_on HB1.out (below_drew w1)
  have H2 := hide (H.out.later B2.out)
  have X2 : Hid (w2.heap[kx]? = some (.cells #[.int .i64 a, .int .i64 b] 34 (0, 0))) := hw2 ▸ HX1.out
  clear hlk p0 p1 c0 c1 c2 c3 H1 HX1 hw2 HB1
  obtain ⟨-, -, c2, c3⟩ := H2.out.cells
  obtain ⟨p0, p1⟩ := kx_cells X2.out (Below.refl _ w2)
  have hlq := H2.out.mq.look1 (by omega) HQ.out
  obtain ⟨hi, hx⟩ := HX.out
  have JF : Hid (Calls Tryz.prog 77 #[.pointer (some ⟨g, 0, none⟩), .agg #[.int .i64 a, .int .i64 b]] w2 fun e w' => e = .returned (.int .i64 (i : Int)) ∧ Hid (Below w2.heap.size w2 w')) := by
    obtain ⟨n, hn, ht⟩ := H2.out.tb HQ.out
    refine (find_any ht a b hib).mono ?_
    rintro e w' ⟨r, rfl, hr, hb2⟩
    have hr2 : r = (i : Int) := by
      rcases hr with ⟨-, hr⟩ | ⟨j, hj, rfl, hr⟩
      · exact absurd (hx ▸ List.getElem_mem hi) hr
      · obtain ⟨lab, vr, gm', vc, cs, f', hm, hix, -⟩ := ht
        rw [hix.inj hj hi (hr.trans hx.symm)]
    exact ⟨ret_int hr2, hb2⟩
  have hrl : row.length = fsum ks s 1 ∧ row.length ≤ 48 := by
    rw [HROW.out, rowOf_len]
    exact ⟨HC.out, H48.out⟩
  have JR : Hid (∀ W, Hid (Below w2.heap.size w2 W) → Calls Tryz.prog 76 #[.pointer (some ⟨g, 0, none⟩), .int .i64 (i : Int)] W fun e w' => ∃ v, e = .returned (.tuple #[.agg #[.int .i64 a, .int .i64 b], v, .int .i64 0]) ∧ Hid (w'.ownsRow w.heap.size 2 1 v row.length (zc row) ∧ Below w.heap.size w w')) := fun W hW => by
    obtain ⟨n, hn, ht⟩ := H2.out.tb HQ.out
    refine (row_any (ht.later hW.out) i hi).mono ?_
    rintro e w' ⟨v, rfl, h1, h2⟩
    have b3 := below_on B2.out hW.out
    rw [← rowOf_len (T s).2 i, ← HROW.out] at h1
    refine ⟨v, ?_, own_lower h1 b3.size, below_on b3 h2⟩
    rw [hx]
  have HRL := hide hrl
  clear hi hx hrl HX HC H48 HROW
  go_wp2_with fail
  refine JF.out.mono ?_
  rintro e w2' ⟨rfl, HW2⟩
  go_wp2_with fail
  refine (JR.out _ HW2).mono ?_
  rintro e w3 ⟨v3, rfl, H3⟩
  obtain ⟨a3, c3', rfl⟩ := own_len H3.out.1
  clear JF JR p0 p1 HW2 H2 X2 c2 c3 hlq B2
  have hv3 : Hid (Jz w3 (.slice a3 row.length c3') row) := Jz.own H3.out.1
  obtain ⟨w4, hw4⟩ : ∃ X, X = w3.alloc (.cells #[.int .i64 a, .int .i64 b] 34) := ⟨_, rfl⟩
  have B4 : Hid (Below w.heap.size w w4) := hw4 ▸ below_on H3.out.2 (below_alloc w3 _)
  have I4 : Hid (Jz w4 (.slice a3 row.length c3') row) := hw4 ▸ hv3.out.later (below_alloc w3 _)
  go_wp2_with fail
  rw [← hw4]
  clear hv3 hw4 H3
  go_loopw [8, 10, 11] (fun v8 v10 v11 W => ∃ (k : Nat) (rest : List Int) (L : List Pt) (R : List (Nat × List Int)), k ≤ ks.length ∧ v11 = .int .i64 ((k + 1 : Nat) : Int) ∧ rest.length ≤ 48 ∧ Hid (partsL ks s 1 row = R ++ partsL (ks.drop k) s (k + 1) rest ∧ rest.length = fsum (ks.drop k) s (k + 1)) ∧ L.length ≤ k ∧ Hid (Jz w4 v8 rest) ∧ Hid (W.ownsRow w4.heap.size 51 2 v10 L.length (pz L)) ∧ Hid (Pv w4.heap.size W L R) ∧ Hid (∀ p ∈ L, Ap (ptV p) v10) ∧ Hid (Below w4.heap.size w4 W)) (fun _ _ v11 _ => ks.length + 1 - (intOf v11).toNat)
  case atStart => exact ⟨0, row, [], [], Nat.zero_le _, rfl, HRL.out.2, ⟨rfl, HRL.out.1⟩, Nat.zero_le _, I4, World.ownsRow_nil _ _ _ _, Pv.nil _ _, fun p hp => by simp at hp, Below.refl _ _⟩
  case round =>
    obtain ⟨k, rest, L, R, hkl, rfl, h48, HP, hLk, HI, HO, HV, HAp, HB4⟩ := hrel
    have HB : Hid (Below w.heap.size w wr) := below_on B4.out HB4.out
    have hx := H.out.later HB.out
    obtain ⟨c0, -, -, -⟩ := hx.cells
    have hkr := hx.2.2.2.1.kr
    have JFd : Hid (∀ (j : Nat) (h1 : 1 ≤ j) (h2 : j ≤ ks.length), Calls Tryz.prog 79 #[.pointer (some ⟨gw, 0, none⟩), .int .i64 (j : Int)] wr fun e w' => e = .returned (.int .i64 ((ks[j - 1]'(by omega)).2.length : Int)) ∧ w' = wr) := fun j h1 h2 => fields_any hx.2.2.1 hkr j h1 h2 hks
    obtain ⟨ak, ck, rfl, hk1, -⟩ := hkr
    clear hx
    by_cases hlt : k < ks.length
    · have t1 : ((k + 1 : Nat) : Int) ≤ (ks.length : Int) := by omega
      have hps := parts_step ks s k hlt rest
      have hfs := fsum_step ks s k hlt
      have JH := hide (has_any s (k + 1) wr hs (by omega))
      have JF1 := hide (JFd.out (k + 1) (by omega) (by omega))
      simp only [Nat.add_sub_cancel] at JF1
      generalize (ks[k]'hlt).2.length = m at *
      obtain ⟨K, hK⟩ : ∃ K : Int, K = ((k + 1 : Nat) : Int) := ⟨_, rfl⟩
      have t3 : IntKind.i64.wrap (K + 1) = ((k + 1 + 1 : Nat) : Int) := by rw [IntKind.wrap_i64]; omega
      rw [← hK] at t1 JH JF1 ⊢
      have HKK := hide hK
      have HPS := hide hps
      have HFS := hide hfs
      clear hK hps hfs JFd
      cases hbt : s.testBit (k + 1) with
      | false =>
        rw [hbt] at JH HPS HFS
        have hp2 := HPS.out
        have hf2 := HFS.out
        simp only [Bool.false_eq_true, if_false, Nat.zero_add] at hp2 hf2
        have HP2 := hide hp2
        have HF2 := hide hf2
        clear HPS HFS hp2 hf2 hbt JF1
        go_wp2_with fail
        refine JH.out.mono ?_
        rintro e w' ⟨rfl, rfl⟩
        go_wp2_with fail
        go_roundw
        case rel => exact ⟨k + 1, rest, L, R, by omega, by have hKK := HKK.out; subst hKK; go_num, h48, ⟨by rw [HP.out.1, HP2.out], by rw [HP.out.2, HF2.out]⟩, by omega, HI, HO, HV, HAp, HB4⟩
        case measure => have hKK := HKK.out; simp only [intOf]; omega
      | true =>
        rw [hbt] at JH HPS HFS
        have hp2 := HPS.out
        have hf2 := HFS.out
        simp only [if_true] at hp2 hf2
        have HP2 := hide hp2
        have HF2 := hide hf2
        have hmr : m ≤ rest.length := by rw [HP.out.2, HF2.out]; omega
        clear HPS HFS hp2 hf2 hbt
        obtain ⟨a10, c10, rfl⟩ := own_len HO.out
        rcases HI.out with ⟨rfl, rfl⟩ | ⟨gv, ov, c8, rfl, h81, h82, h83⟩
        · obtain rfl : m = 0 := by simpa using hmr
          have HP0 : Hid (List.take 0 ([] : List Int) = [] ∧ List.drop 0 ([] : List Int) = []) := ⟨rfl, rfl⟩
          have JC := hide (clone_nums (.slice none 0 0) [] wr ⟨none, 0, rfl, Nat.le_refl _, Nat.zero_le _, fun j hj => absurd hj (by simp)⟩ (by simp))
          go_wp2_with fail
          refine JH.out.mono ?_
          rintro e wr ⟨rfl, rfl⟩
          go_wp2_with fail
          refine JF1.out.mono ?_
          rintro e wr ⟨rfl, rfl⟩
          go_wp2_with fail
          refine JC.out.mono ?_
          rintro e w5 ⟨v5, rfl, ho5, hb5⟩
          have hlm : (([] : List Int)).length = 0 := rfl
          obtain ⟨a5, c5, rfl⟩ := own_len ho5
          have O5 := hide ho5
          have B5 := hide hb5
          have HLM := hide hlm
          have HA : Hid (∀ (v' : Value) (w' : World), w'.ownsRow w4.heap.size 51 2 v' (L.length + 1) (pz L ++ [.int .i64 K, .slice a5 0 c5]) → (w5.alloc (.cells #[.int .i64 K, .slice a5 0 c5] 51)).grownBy w' (Value.slice a10 L.length c10).ownBlock → (v'.ownBlock = (Value.slice a10 L.length c10).ownBlock ∨ v'.ownBlock = some (w5.heap.size + 1)) → w'.ownsRow w4.heap.size 51 2 v' (L ++ [(K, a5, 0, c5)]).length (pz (L ++ [(K, a5, 0, c5)])) ∧ Pv w4.heap.size w' (L ++ [(K, a5, 0, c5)]) (R ++ [(k + 1, ([] : List Int))]) ∧ (∀ p ∈ L ++ [(K, a5, 0, c5)], Ap (ptV p) v') ∧ Below w4.heap.size w4 w') := fun v' w' g1 g2 g3 => by
            have b6 : Below wr.heap.size wr (w5.alloc (.cells #[.int .i64 K, .slice a5 0 c5] 51)) := below_on B5.out (below_alloc w5 _)
            have hwr := HB4.out.size
            have hw5 := B5.out.size
            have q1 : ∀ j, (Value.slice a10 L.length c10).ownBlock = some j → w4.heap.size ≤ j ∧ j < wr.heap.size := fun j e => HO.out.lt j e
            have q2 : ∀ j, (Value.slice a5 0 c5).ownBlock = some j → wr.heap.size ≤ j ∧ j < w5.heap.size := fun j e => O5.out.lt j e
            have q3 : ∀ p ∈ L, ∀ j, (ptV p).ownBlock = some j → j < wr.heap.size := fun p hp j e => by
              obtain ⟨n, hn, rfl⟩ := List.getElem_of_mem hp
              exact ((HV.out.2 n hn (by rw [← HV.out.1]; exact hn)).2.lt j e).2
            refine ⟨?_, ?_, ?_, (below_on HB4.out b6).grown g2 (by simp; omega) (fun j e => (q1 j e).1)⟩
            · rw [pz_append, pz_two, List.length_append]
              exact g1
            · refine Pv.push ((HV.out.later b6).grown g2 (fun p hp j e e2 => HAp.out p hp j e e2)) (K, a5, 0, c5) (k + 1) (([] : List Int)) HKK.out ?_
              rw [HLM.out]
              exact own_kept (own_lower (own_later O5.out (below_alloc w5 _)) hwr) g2 (fun j e e2 => by have h1 := q1 j e2; have h2 := q2 j e; omega)
            · intro p hp j e1 e2
              rw [List.mem_append, List.mem_singleton] at hp
              rcases g3 with g3 | g3
              · rw [g3] at e2
                rcases hp with hp | rfl
                · exact HAp.out p hp j e1 e2
                · have h1 := q1 j e2
                  have h2 := q2 j e1
                  omega
              · rw [g3] at e2
                have e3 := Option.some.inj e2
                rcases hp with hp | rfl
                · have := q3 p hp j e1
                  omega
                · have h2 := q2 j e1
                  omega
          clear JC JF1 JH ho5 hb5 hlm
          go_wp2_with (at_builtin; refine wpList_append_own_at _ rfl _ _ 36 rfl w4.heap.size 51 i0 (.agg #[.int .i64 0, .slice none 0 0]) 2 32 Tryz.underlying36 hi0 hz0 hz1 hz2 rfl (by decide) _ L.length (pz L) rfl ((own_later HO.out B5.out).alloc _) ⟨w5.heap.size, 0, none⟩ 1 1 [.int .i64 K, .slice a5 0 c5] rfl rfl ?c1 ?c2 (by unfold maxLen; omega) (by omega) ?c5 ?_)
          case c1 =>
            intro j u hj
            match j, hj with
            | 0, hj => simp at hj; subst hj; simp [Addr.add]
            | 1, hj => simp at hj; subst hj; simp [Addr.add]
          case c2 =>
            intro u hu
            simp at hu
            rcases hu with rfl | rfl <;> rfl
          case c5 =>
            have h1 := HB4.out.size
            have h2 := B5.out.size
            simp
            omega
          intro v' w' g1 g2 _ g3
          obtain ⟨r1, r2, r3, r4⟩ := HA.out v' w' g1 g2 g3
          have R1 := hide r1
          have R2 := hide r2
          have R3 := hide r3
          have R4 := hide r4
          clear g1 g2 g3 r1 r2 r3 r4 HA
          go_wp2_with fail
          go_roundw
          case rel =>
            refine ⟨k + 1, ([] : List Int), L ++ [(K, a5, 0, c5)], R ++ [(k + 1, ([] : List Int))], by omega, by have hKK := HKK.out; subst hKK; go_num, by simp, ⟨?_, ?_⟩, by simp; omega, ?_, R1, R2, R3, R4⟩
            · rw [HP.out.1, HP2.out, List.append_assoc]
              rfl
            · have h1 := HP.out.2
              rw [HF2.out] at h1
              simp only [List.length_nil] at h1 ⊢
              omega
            · exact .inl ⟨rfl, rfl⟩
          case measure => have hKK := HKK.out; simp only [intOf]; omega
        · have JC := hide (clone_nums _ _ wr ((take_iz h81 h82 h83 hmr).later HB4.out) (by rw [List.length_take]; omega))
          have H83 := hide h83
          have H82 := hide h82
          have tm : (m : Int) ≤ (rest.length : Int) := by omega
          have tm2 : (m : Int) ≤ (c8 : Int) := by omega
          clear h83 h82
          go_wp2_with fail
          refine JH.out.mono ?_
          rintro e wr ⟨rfl, rfl⟩
          go_wp2_with fail
          refine JF1.out.mono ?_
          rintro e wr ⟨rfl, rfl⟩
          go_wp2_with fail
          refine JC.out.mono ?_
          rintro e w5 ⟨v5, rfl, ho5, hb5⟩
          have hlm : (rest.take m).length = m := by rw [List.length_take]; omega
          rw [hlm] at ho5
          obtain ⟨a5, c5, rfl⟩ := own_len ho5
          have O5 := hide ho5
          have B5 := hide hb5
          have HLM := hide hlm
          have HA : Hid (∀ (v' : Value) (w' : World), w'.ownsRow w4.heap.size 51 2 v' (L.length + 1) (pz L ++ [.int .i64 K, .slice a5 m c5]) → (w5.alloc (.cells #[.int .i64 K, .slice a5 m c5] 51)).grownBy w' (Value.slice a10 L.length c10).ownBlock → (v'.ownBlock = (Value.slice a10 L.length c10).ownBlock ∨ v'.ownBlock = some (w5.heap.size + 1)) → w'.ownsRow w4.heap.size 51 2 v' (L ++ [(K, a5, m, c5)]).length (pz (L ++ [(K, a5, m, c5)])) ∧ Pv w4.heap.size w' (L ++ [(K, a5, m, c5)]) (R ++ [(k + 1, rest.take m)]) ∧ (∀ p ∈ L ++ [(K, a5, m, c5)], Ap (ptV p) v') ∧ Below w4.heap.size w4 w') := fun v' w' g1 g2 g3 => by
            have b6 : Below wr.heap.size wr (w5.alloc (.cells #[.int .i64 K, .slice a5 m c5] 51)) := below_on B5.out (below_alloc w5 _)
            have hwr := HB4.out.size
            have hw5 := B5.out.size
            have q1 : ∀ j, (Value.slice a10 L.length c10).ownBlock = some j → w4.heap.size ≤ j ∧ j < wr.heap.size := fun j e => HO.out.lt j e
            have q2 : ∀ j, (Value.slice a5 m c5).ownBlock = some j → wr.heap.size ≤ j ∧ j < w5.heap.size := fun j e => O5.out.lt j e
            have q3 : ∀ p ∈ L, ∀ j, (ptV p).ownBlock = some j → j < wr.heap.size := fun p hp j e => by
              obtain ⟨n, hn, rfl⟩ := List.getElem_of_mem hp
              exact ((HV.out.2 n hn (by rw [← HV.out.1]; exact hn)).2.lt j e).2
            refine ⟨?_, ?_, ?_, (below_on HB4.out b6).grown g2 (by simp; omega) (fun j e => (q1 j e).1)⟩
            · rw [pz_append, pz_two, List.length_append]
              exact g1
            · refine Pv.push ((HV.out.later b6).grown g2 (fun p hp j e e2 => HAp.out p hp j e e2)) (K, a5, m, c5) (k + 1) (rest.take m) HKK.out ?_
              rw [HLM.out]
              exact own_kept (own_lower (own_later O5.out (below_alloc w5 _)) hwr) g2 (fun j e e2 => by have h1 := q1 j e2; have h2 := q2 j e; omega)
            · intro p hp j e1 e2
              rw [List.mem_append, List.mem_singleton] at hp
              rcases g3 with g3 | g3
              · rw [g3] at e2
                rcases hp with hp | rfl
                · exact HAp.out p hp j e1 e2
                · have h1 := q1 j e2
                  have h2 := q2 j e1
                  omega
              · rw [g3] at e2
                have e3 := Option.some.inj e2
                rcases hp with hp | rfl
                · have := q3 p hp j e1
                  omega
                · have h2 := q2 j e1
                  omega
          clear JC JF1 JH ho5 hb5 hlm
          go_wp2_with (at_builtin; refine wpList_append_own_at _ rfl _ _ 36 rfl w4.heap.size 51 i0 (.agg #[.int .i64 0, .slice none 0 0]) 2 32 Tryz.underlying36 hi0 hz0 hz1 hz2 rfl (by decide) _ L.length (pz L) rfl ((own_later HO.out B5.out).alloc _) ⟨w5.heap.size, 0, none⟩ 1 1 [.int .i64 K, .slice a5 m c5] rfl rfl ?c1 ?c2 (by unfold maxLen; omega) (by omega) ?c5 ?_)
          case c1 =>
            intro j u hj
            match j, hj with
            | 0, hj => simp at hj; subst hj; simp [Addr.add]
            | 1, hj => simp at hj; subst hj; simp [Addr.add]
          case c2 =>
            intro u hu
            simp at hu
            rcases hu with rfl | rfl <;> rfl
          case c5 =>
            have h1 := HB4.out.size
            have h2 := B5.out.size
            simp
            omega
          intro v' w' g1 g2 _ g3
          obtain ⟨r1, r2, r3, r4⟩ := HA.out v' w' g1 g2 g3
          have R1 := hide r1
          have R2 := hide r2
          have R3 := hide r3
          have R4 := hide r4
          clear g1 g2 g3 r1 r2 r3 r4 HA
          go_wp2_with fail
          go_roundw
          case rel =>
            refine ⟨k + 1, rest.drop m, L ++ [(K, a5, m, c5)], R ++ [(k + 1, rest.take m)], by omega, by have hKK := HKK.out; subst hKK; go_num, by rw [List.length_drop]; omega, ⟨?_, ?_⟩, by simp; omega, ?_, R1, R2, R3, R4⟩
            · rw [HP.out.1, HP2.out, List.append_assoc]
              rfl
            · rw [List.length_drop, HP.out.2, HF2.out]
              omega
            · by_cases hcm : c8 = m
              · rw [if_pos hcm]
                exact drop_jz h81 H82.out H83.out hmr ov (fun e => by omega)
              · rw [if_neg hcm]
                exact drop_jz h81 H82.out H83.out hmr (ov + m) (fun _ => rfl)
          case measure => have hKK := HKK.out; simp only [intOf]; omega
    · obtain rfl : k = ks.length := by omega
      have t1 : ¬ ((ks.length + 1 : Nat) : Int) ≤ (ks.length : Int) := by omega
      have hp := HP.out.1
      rw [List.drop_length] at hp
      have hp2 : partsL ks s 1 row = R := by rw [hp]; simp [partsL]
      have HP2 := hide hp2
      obtain ⟨a10, c10, rfl⟩ := own_len HO.out
      have hb4 := B4.out.size
      have HFin : Hid (wr.ownsRow w.heap.size 51 2 (.slice a10 L.length c10) L.length (pz L) ∧ Pv w.heap.size wr L (partsL ks s 1 row) ∧ Below w.heap.size w wr) := ⟨own_lower HO.out hb4, by rw [HP2.out]; exact ⟨HV.out.1, fun i h1 h2 => ⟨(HV.out.2 i h1 h2).1, own_lower (HV.out.2 i h1 h2).2 hb4⟩⟩, HB.out⟩
      clear hp hp2 HP2 HP JFd
      obtain ⟨K, hK⟩ : ∃ K : Int, K = ((ks.length + 1 : Nat) : Int) := ⟨_, rfl⟩
      rw [← hK] at t1 ⊢
      clear hK
      go_wp2_with fail
      go_ret
      exact ⟨_, rfl, L, HFin.out⟩
end
end Go.Proofs.YtfbhoemfabgjpaaGreat
