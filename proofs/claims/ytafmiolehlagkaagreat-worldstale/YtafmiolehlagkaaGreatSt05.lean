import Derived.Test.YtafmiolehlagkaaGreatSt04
import Derived.Test.YtafmiolehlagkaaGreatSt03
import Derived.Maps.RangeWalk
import Derived.Shelf.SlSortCmp.WholeK
/-
  World: all parts of one that lives.
-/
namespace Go.Proofs.YtafmiolehlagkaaGreat
open Go.RowKit
set_option maxRecDepth 100000
theorem parts_step (ks : List Kind) (s k : Nat) (hk : k < ks.length) (vals : List Int) : partsL (ks.drop k) s (k + 1) vals = if s.testBit (k + 1) then (k + 1, vals.take ks[k].2.length) :: partsL (ks.drop (k + 1)) s (k + 1 + 1) (vals.drop ks[k].2.length) else partsL (ks.drop (k + 1)) s (k + 1 + 1) vals := by
  rw [List.drop_eq_getElem_cons hk]
  rfl
theorem fsum_step (ks : List Kind) (s k : Nat) (hk : k < ks.length) : fsum (ks.drop k) s (k + 1) = (if s.testBit (k + 1) then ks[k].2.length else 0) + fsum (ks.drop (k + 1)) s (k + 1 + 1) := by
  rw [List.drop_eq_getElem_cons hk]
  rfl
/-- Numbers that are read: nil, or a place of their own. -/
def Jz (w : World) (v : Value) (l : List Int) : Prop :=
  (v = .slice none 0 0 ∧ l = []) ∨ ∃ g o c, v = .slice (some ⟨g, o, none⟩) l.length c ∧ l.length ≤ c ∧ c ≤ maxLen ∧ ∀ j (hj : j < l.length), w.cell? ⟨g, o + j, none⟩ = some (.int .i64 l[j])
theorem Jz.own {w : World} {v : Value} {l : List Int} {B : Nat} (h : w.ownsRow B 2 1 v l.length (zc l)) : Jz w v l := by
  rcases h.2 with ⟨rfl, hl⟩ | ⟨g, c, cur, rfl, -, hg, h1, h2, hcs, htake⟩
  · exact .inl ⟨rfl, List.eq_nil_of_length_eq_zero hl⟩
  · exact .inr ⟨g, 0, c, rfl, h1, h2, fun j hj => by rw [Nat.zero_add]; exact own_num h j hj⟩
theorem Jz.later {w w' : World} {v : Value} {l : List Int} (h : Jz w v l) (hb : Below w.heap.size w w') : Jz w' v l := by
  rcases h with h | ⟨g, o, c, rfl, h1, h2, h3⟩
  · exact .inl h
  · exact .inr ⟨g, o, c, rfl, h1, h2, fun j hj => (hb.cell (p := ⟨g, o + j, none⟩) (World.block_lt_of_cell? w _ (h3 j hj))).trans (h3 j hj)⟩
theorem take_iz {w : World} {g o c m : Nat} {l : List Int} (h1 : l.length ≤ c) (h2 : c ≤ maxLen) (h3 : ∀ j (hj : j < l.length), w.cell? ⟨g, o + j, none⟩ = some (.int .i64 l[j])) (hm : m ≤ l.length) : Iz w (.slice (some ⟨g, o, none⟩) m c) (l.take m) := by
  have hl : (l.take m).length = m := by rw [List.length_take]; omega
  refine ⟨some ⟨g, o, none⟩, c, by rw [hl], by omega, h2, fun j hj => ⟨g, o, rfl, ?_⟩⟩
  rw [List.getElem_take]
  exact h3 j (by omega)
theorem drop_jz {w : World} {g o c m : Nat} {l : List Int} (h1 : l.length ≤ c) (h2 : c ≤ maxLen) (h3 : ∀ j (hj : j < l.length), w.cell? ⟨g, o + j, none⟩ = some (.int .i64 l[j])) (hm : m ≤ l.length) (o' : Nat) (ho : m < l.length → o' = o + m) : Jz w (.slice (some ⟨g, o', none⟩) (l.length - m) (c - m)) (l.drop m) := by
  have hl : (l.drop m).length = l.length - m := by rw [List.length_drop]
  refine .inr ⟨g, o', c - m, by rw [hl], by omega, by omega, fun j hj => ?_⟩
  rw [ho (by omega), List.getElem_drop, Nat.add_assoc]
  exact h3 (m + j) (by omega)
theorem Pv.grown {B : Nat} {w w' : World} {L : List Pt} {R : List (Nat × List Int)} {row : Option Nat} (h : Pv B w L R) (hg : w.grownBy w' row) (hne : ∀ p ∈ L, ∀ k, (ptV p).ownBlock = some k → row ≠ some k) : Pv B w' L R := ⟨h.1, fun i h1 h2 => ⟨(h.2 i h1 h2).1, own_kept (h.2 i h1 h2).2 hg (hne _ (List.getElem_mem h1))⟩⟩
theorem pz_two (p : Pt) : pz [p] = [.int .i64 p.1, ptV p] := rfl
section
variable {w w' : World} {own : Nat → Nat} {gw gp gm gt M M' : Nat} {vk : Value} {ks : List Kind} {gs fr gs' fr' : List Nat} {f f' : Int × Int → Option Nat} {q q' : Nat → Option Nat} {T T' : Nat → Ts}
set_option maxHeartbeats 8000000 in
theorem parts_any (h : Wx 0 w own gw vk gp gm gt M ks gs fr f q T) (a b : Int) (hib : InB (a, b)) (hks : ks.length ≤ 12) (s g i : Nat) (hf : f (a, b) = some s) (hq : q s = some g) (hs : s < 8192) (hi : i < (T s).1.length) (hx : (T s).1[i] = (a, b)) (hcol : (T s).2.length = fsum ks s 1) :
    Calls Tryz.prog 78 #[.pointer (some ⟨gw, 0, none⟩), .agg #[.int .i64 a, .int .i64 b]] w fun e w' => ∃ v, e = .returned v ∧ ∃ L, w'.ownsRow w.heap.size 32 2 v L.length (pz L) ∧ Pv w.heap.size w' L (partsL ks s 1 (rowOf (T s).2 i)) ∧ Below w.heap.size w w' := by
  obtain ⟨i0, hi0, hz0, hz1, hz2⟩ := info_parts infoP
  have H := hide h
  have HQ := hide hq
  have HF := hide hf
  have HX : Hid (∃ hi : i < (T s).1.length, (T s).1[i] = (a, b)) := ⟨hi, hx⟩
  have h48 : (T s).2.length ≤ 48 := by
    obtain ⟨n, -, lab, vr, gm', vc, cs, f', -, -, -, -, -, -, hc⟩ := h.tb hq
    exact hc
  have HC := hide hcol
  have H48 := hide h48
  obtain ⟨row, hrow⟩ : ∃ X, X = rowOf (T s).2 i := ⟨_, rfl⟩
  rw [← hrow]
  have HROW := hide hrow
  clear h hq hf hi hx hcol h48 hrow
  go_enter Tryz.func78, Tryz.ntmps78
  go_upto_region 1 with fail
  obtain ⟨w1, hw1⟩ : ∃ X, X = w.alloc (.cells #[.int .i64 a, .int .i64 b] 29) := ⟨_, rfl⟩
  have B1 : Below w.heap.size w w1 := hw1 ▸ below_alloc w _
  have hx1 : w1.heap[w.heap.size]? = some (.cells #[.int .i64 a, .int .i64 b] 29 (0, 0)) := hw1 ▸ heap_alloc_new w _
  rw [← hw1]
  obtain ⟨kx, hkx⟩ : ∃ k, k = w.heap.size := ⟨_, rfl⟩
  rw [← hkx] at hx1 ⊢
  have HX1 : Hid (w1.heap[kx]? = some (.cells #[.int .i64 a, .int .i64 b] 29 (0, 0))) := hx1
  obtain ⟨p0, p1⟩ := kx_cells hx1 (Below.refl _ w1)
  have H1 := hide (H.out.later B1)
  have HB1 := hide B1
  have HKX : Hid (kx = w.heap.size) := hkx
  obtain ⟨c0, c1, c2, c3⟩ := H1.out.cells
  have hlk := (H1.out.later (below_drew w1)).mp.look1 a b hib HF.out
  clear hx1 hw1 hkx B1
  refine wp_region_noPanic ?_
  refine wp_region_late (J := fun i => i != 99) (S := fun W => W.cell? ⟨gw, 2, none⟩ = some (.map (some gm)) ∧ W.cell? ⟨kx, 0, none⟩ = some (.int .i64 a) ∧ W.cell? ⟨kx, 1, none⟩ = some (.int .i64 b)) (by kernel_rfl) ⟨c2, p0, p1⟩ (fun hHeld => ?_)
  refine' wpAnyJ_takeW (i := 0) (oi := { dst := some 13, op := Op.move (Operand.tmp 0), type := 37, pos := "world.go:195", after := #[], guard := none }) (v := _) rfl (by kernel_rfl) (by kernel_rfl) (by kernel_rfl) (fun _ _ _ h => h) (Or.inl ⟨by rfl, ?hyA1⟩) ?reA1
  case hyA1 => (intro W hSw; (try dsimp only at hSw); go_simp; try with_reducible rfl)
  try simp only [Act.put, List.setIfInBounds_toArray, List.set_cons_zero, List.set_cons_succ]
  refine' wpAnyJ_takeW (i := 1) (oi := { dst := some 14, op := Op.nilCheck (Operand.tmp 13), type := 0, pos := "world.go:195", after := #[{ on := 0, ground := Ground.data }], guard := none }) (v := _) rfl (by kernel_rfl) (by kernel_rfl) (by kernel_rfl) (fun _ _ _ h => h) (Or.inl ⟨by rfl, ?hyA2⟩) ?reA2
  case hyA2 => (intro W hSw; (try dsimp only at hSw); go_simp; try with_reducible rfl)
  try simp only [Act.put, List.setIfInBounds_toArray, List.set_cons_zero, List.set_cons_succ]
  refine' wpAnyJ_takeW (i := 2) (oi := { dst := some 15, op := Op.fieldAddr 109 (Operand.tmp 14) 2, type := 0, pos := "world.go:195", after := #[{ on := 1, ground := Ground.data }], guard := none }) (v := _) rfl (by kernel_rfl) (by kernel_rfl) (by kernel_rfl) (fun _ _ _ h => h) (Or.inl ⟨by rfl, ?hyA3⟩) ?reA3
  case hyA3 => (intro W hSw; (try dsimp only at hSw); go_simp; try with_reducible rfl)
  try simp only [Act.put, List.setIfInBounds_toArray, List.set_cons_zero, List.set_cons_succ]
  refine' wpAnyJ_take (i := 3) (oi := { dst := some 16, op := Op.load 106 (Operand.tmp 15), type := 106, pos := "world.go:195", after := #[{ on := 2, ground := Ground.data }], guard := none }) (v := _) rfl (by kernel_rfl) (by kernel_rfl) (by kernel_rfl) (by kernel_rfl) (fun _ _ _ h => h) (Or.inl ⟨by rfl, ?hyA4⟩) (by assumption) ?reA4
  case hyA4 => (intro W hSw; (try dsimp only at hSw); go_simp; try with_reducible rfl)
  try simp only [Act.put, List.setIfInBounds_toArray, List.set_cons_zero, List.set_cons_succ]
  refine' wpAnyJ_take (i := 4) (oi := { dst := some 17, op := Op.load 29 (Operand.tmp 3), type := 29, pos := "world.go:195", after := #[], guard := none }) (v := _) rfl (by kernel_rfl) (by kernel_rfl) (by kernel_rfl) (by kernel_rfl) (fun _ _ _ h => h) (Or.inl ⟨by rfl, ?hyA5⟩) (by assumption) ?reA5
  case hyA5 => (intro W hSw; (try dsimp only at hSw); go_simp; try with_reducible rfl)
  try simp only [Act.put, List.setIfInBounds_toArray, List.set_cons_zero, List.set_cons_succ]
  refine wpAnyJ_ready (rs := [5]) (by kernel_rfl) (by simp) ?_
  refine AllReadyJ.cons (o := { dst := some 18, op := Op.lookup 106 (Operand.tmp 16) (Operand.tmp 17) false, type := 3, pos := "world.go:195", after := #[{ on := 3, ground := Ground.data }, { on := 4, ground := Ground.data }], guard := none }) rfl (fun K hK => ?_) AllReadyJ.nil
  go_simp
  refine hK.out _ _ (fun _ _ => ⟨c2, p0, p1⟩) ?_
  clear hK K
  try simp only [Act.put, List.setIfInBounds_toArray, List.set_cons_zero, List.set_cons_succ]
  refine' wpAnyJ_takeW (i := 6) (oi := { dst := some 5, op := Op.assign (Operand.tmp 18), type := 3, pos := "world.go:195", after := #[{ on := 5, ground := Ground.data }, { on := 0, ground := Ground.phase }, { on := 1, ground := Ground.phase }, { on := 2, ground := Ground.phase }, { on := 3, ground := Ground.phase }, { on := 4, ground := Ground.phase }, { on := 5, ground := Ground.phase }], guard := none }) (v := _) rfl (by kernel_rfl) (by kernel_rfl) (by kernel_rfl) (fun _ _ _ h => h) (Or.inl ⟨by rfl, ?hyA6⟩) ?reA6
  case hyA6 => (intro W hSw; (try dsimp only at hSw); go_simp; try with_reducible rfl)
  try simp only [Act.put, List.setIfInBounds_toArray, List.set_cons_zero, List.set_cons_succ]
  refine wpAnyJ_done (by kernel_rfl) ?_ _
  refine NoPanic.normal ?_
  obtain ⟨w2, hw2⟩ : ∃ X, X = w1.drew := ⟨_, rfl⟩
  rw [← hw2]
  have B2 : Hid (Below w.heap.size w w2) := hw2 ▸ below_on HB1.out (below_drew w1)
  have H2 := hide (H.out.later B2.out)
  have X2 : Hid (w2.heap[kx]? = some (.cells #[.int .i64 a, .int .i64 b] 29 (0, 0))) := hw2 ▸ HX1.out
  clear hlk p0 p1 c0 c1 c2 c3 H1 HX1 hw2 HB1
  obtain ⟨-, -, c2, c3⟩ := H2.out.cells
  obtain ⟨p0, p1⟩ := kx_cells X2.out (Below.refl _ w2)
  have hlq := H2.out.mq.look1 (by omega) HQ.out
  obtain ⟨hi, hx⟩ := HX.out
  have JF : Hid (Calls Tryz.prog 150 #[.pointer (some ⟨g, 0, none⟩), .agg #[.int .i64 a, .int .i64 b]] w2 fun e w' => e = .returned (.int .i64 (i : Int)) ∧ Hid (Below w2.heap.size w2 w')) := by
    obtain ⟨n, hn, ht⟩ := H2.out.tb HQ.out
    refine (find_any ht a b hib).mono ?_
    rintro e w' ⟨r, rfl, hr, hb2⟩
    have hr2 : r = (i : Int) := by
      rcases hr with ⟨-, hr⟩ | ⟨j, hj, rfl, hr⟩
      · exact absurd (hx ▸ List.getElem_mem hi) hr
      · obtain ⟨lab, vr, gm', vc, cs, f', hm, hix, -⟩ := ht
        rw [hix.inj hj hi (hr.trans hx.symm)]
    exact ⟨ret_int hr2, hb2⟩
  have hrl : row.length = fsum ks s 1 ∧ row.length ≤ 48 := by
    rw [HROW.out, rowOf_len]
    exact ⟨HC.out, H48.out⟩
  have JR : Hid (∀ W, Hid (Below w2.heap.size w2 W) → Calls Tryz.prog 149 #[.pointer (some ⟨g, 0, none⟩), .int .i64 (i : Int)] W fun e w' => ∃ v, e = .returned (.tuple #[.agg #[.int .i64 a, .int .i64 b], v, .int .i64 0]) ∧ Hid (w'.ownsRow w.heap.size 2 1 v row.length (zc row) ∧ Below w.heap.size w w')) := fun W hW => by
    obtain ⟨n, hn, ht⟩ := H2.out.tb HQ.out
    refine (row_any (ht.later hW.out) i hi).mono ?_
    rintro e w' ⟨v, rfl, h1, h2⟩
    have b3 := below_on B2.out hW.out
    rw [← rowOf_len (T s).2 i, ← HROW.out] at h1
    refine ⟨v, ?_, own_lower h1 b3.size, below_on b3 h2⟩
    rw [hx]
  have HRL := hide hrl
  clear hi hx hrl HX HC H48 HROW
  go_wp2_with fail
  refine JF.out.mono ?_
  rintro e w2' ⟨rfl, HW2⟩
  go_wp2_with fail
  refine (JR.out _ HW2).mono ?_
  rintro e w3 ⟨v3, rfl, H3⟩
  obtain ⟨a3, c3', rfl⟩ := own_len H3.out.1
  clear JF JR p0 p1 HW2 H2 X2 c2 c3 hlq B2
  have hv3 : Hid (Jz w3 (.slice a3 row.length c3') row) := Jz.own H3.out.1
  obtain ⟨w4, hw4⟩ : ∃ X, X = w3.alloc (.cells #[.int .i64 a, .int .i64 b] 29) := ⟨_, rfl⟩
  have B4 : Hid (Below w.heap.size w w4) := hw4 ▸ below_on H3.out.2 (below_alloc w3 _)
  have I4 : Hid (Jz w4 (.slice a3 row.length c3') row) := hw4 ▸ hv3.out.later (below_alloc w3 _)
  go_wp2_with fail
  rw [← hw4]
  clear hv3 hw4 H3
  go_loopw [8, 10, 11] (fun v8 v10 v11 W => ∃ (k : Nat) (rest : List Int) (L : List Pt) (R : List (Nat × List Int)), k ≤ ks.length ∧ v11 = .int .i64 ((k + 1 : Nat) : Int) ∧ rest.length ≤ 48 ∧ Hid (partsL ks s 1 row = R ++ partsL (ks.drop k) s (k + 1) rest ∧ rest.length = fsum (ks.drop k) s (k + 1)) ∧ L.length ≤ k ∧ Hid (Jz w4 v8 rest) ∧ Hid (W.ownsRow w4.heap.size 32 2 v10 L.length (pz L)) ∧ Hid (Pv w4.heap.size W L R) ∧ Hid (∀ p ∈ L, Ap (ptV p) v10) ∧ Hid (Below w4.heap.size w4 W)) (fun _ _ v11 _ => ks.length + 1 - (intOf v11).toNat)
  case atStart => exact ⟨0, row, [], [], Nat.zero_le _, rfl, HRL.out.2, ⟨rfl, HRL.out.1⟩, Nat.zero_le _, I4, World.ownsRow_nil _ _ _ _, Pv.nil _ _, fun p hp => by simp at hp, Below.refl _ _⟩
  case round =>
    obtain ⟨k, rest, L, R, hkl, rfl, h48, HP, hLk, HI, HO, HV, HAp, HB4⟩ := hrel
    have HB : Hid (Below w.heap.size w wr) := below_on B4.out HB4.out
    have hx := H.out.later HB.out
    obtain ⟨c0, -, -, -⟩ := hx.cells
    have hkr := hx.2.2.2.1.kr
    have JFd : Hid (∀ (j : Nat) (h1 : 1 ≤ j) (h2 : j ≤ ks.length), Calls Tryz.prog 89 #[.pointer (some ⟨gw, 0, none⟩), .int .i64 (j : Int)] wr fun e w' => e = .returned (.int .i64 ((ks[j - 1]'(by omega)).2.length : Int)) ∧ w' = wr) := fun j h1 h2 => fields_any hx.2.2.1 hkr j h1 h2 hks
    obtain ⟨ak, ck, rfl, hk1, -⟩ := hkr
    clear hx
    by_cases hlt : k < ks.length
    · have t1 : ((k + 1 : Nat) : Int) ≤ (ks.length : Int) := by omega
      have hps := parts_step ks s k hlt rest
      have hfs := fsum_step ks s k hlt
      have JH := hide (has_any s (k + 1) wr hs (by omega))
      have JF1 := hide (JFd.out (k + 1) (by omega) (by omega))
      simp only [Nat.add_sub_cancel] at JF1
      generalize (ks[k]'hlt).2.length = m at *
      obtain ⟨K, hK⟩ : ∃ K : Int, K = ((k + 1 : Nat) : Int) := ⟨_, rfl⟩
      have t3 : IntKind.i64.wrap (K + 1) = ((k + 1 + 1 : Nat) : Int) := by rw [IntKind.wrap_i64]; omega
      rw [← hK] at t1 JH JF1 ⊢
      have HKK := hide hK
      have HPS := hide hps
      have HFS := hide hfs
      clear hK hps hfs JFd
      cases hbt : s.testBit (k + 1) with
      | false =>
        rw [hbt] at JH HPS HFS
        have hp2 := HPS.out
        have hf2 := HFS.out
        simp only [Bool.false_eq_true, if_false, Nat.zero_add] at hp2 hf2
        have HP2 := hide hp2
        have HF2 := hide hf2
        clear HPS HFS hp2 hf2 hbt JF1
        go_wp2_with fail
        refine JH.out.mono ?_
        rintro e w' ⟨rfl, rfl⟩
        go_wp2_with fail
        go_roundw
        case rel => exact ⟨k + 1, rest, L, R, by omega, by have hKK := HKK.out; subst hKK; go_num, h48, ⟨by rw [HP.out.1, HP2.out], by rw [HP.out.2, HF2.out]⟩, by omega, HI, HO, HV, HAp, HB4⟩
        case measure => have hKK := HKK.out; simp only [intOf]; omega
      | true =>
        rw [hbt] at JH HPS HFS
        have hp2 := HPS.out
        have hf2 := HFS.out
        simp only [if_true] at hp2 hf2
        have HP2 := hide hp2
        have HF2 := hide hf2
        have hmr : m ≤ rest.length := by rw [HP.out.2, HF2.out]; omega
        clear HPS HFS hp2 hf2 hbt
        obtain ⟨a10, c10, rfl⟩ := own_len HO.out
        rcases HI.out with ⟨rfl, rfl⟩ | ⟨gv, ov, c8, rfl, h81, h82, h83⟩
        · obtain rfl : m = 0 := by simpa using hmr
          have HP0 : Hid (List.take 0 ([] : List Int) = [] ∧ List.drop 0 ([] : List Int) = []) := ⟨rfl, rfl⟩
          have JC := hide (clone_nums (.slice none 0 0) [] wr ⟨none, 0, rfl, Nat.le_refl _, Nat.zero_le _, fun j hj => absurd hj (by simp)⟩ (by simp))
          go_wp2_with fail
          refine JH.out.mono ?_
          rintro e wr ⟨rfl, rfl⟩
          go_wp2_with fail
          refine JF1.out.mono ?_
          rintro e wr ⟨rfl, rfl⟩
          go_wp2_with fail
          refine JC.out.mono ?_
          rintro e w5 ⟨v5, rfl, ho5, hb5⟩
          have hlm : (([] : List Int)).length = 0 := rfl
          obtain ⟨a5, c5, rfl⟩ := own_len ho5
          have O5 := hide ho5
          have B5 := hide hb5
          have HLM := hide hlm
          have HA : Hid (∀ (v' : Value) (w' : World), w'.ownsRow w4.heap.size 32 2 v' (L.length + 1) (pz L ++ [.int .i64 K, .slice a5 0 c5]) → (w5.alloc (.cells #[.int .i64 K, .slice a5 0 c5] 32)).grownBy w' (Value.slice a10 L.length c10).ownBlock → (v'.ownBlock = (Value.slice a10 L.length c10).ownBlock ∨ v'.ownBlock = some (w5.heap.size + 1)) → w'.ownsRow w4.heap.size 32 2 v' (L ++ [(K, a5, 0, c5)]).length (pz (L ++ [(K, a5, 0, c5)])) ∧ Pv w4.heap.size w' (L ++ [(K, a5, 0, c5)]) (R ++ [(k + 1, ([] : List Int))]) ∧ (∀ p ∈ L ++ [(K, a5, 0, c5)], Ap (ptV p) v') ∧ Below w4.heap.size w4 w') := fun v' w' g1 g2 g3 => by
            have b6 : Below wr.heap.size wr (w5.alloc (.cells #[.int .i64 K, .slice a5 0 c5] 32)) := below_on B5.out (below_alloc w5 _)
            have hwr := HB4.out.size
            have hw5 := B5.out.size
            have q1 : ∀ j, (Value.slice a10 L.length c10).ownBlock = some j → w4.heap.size ≤ j ∧ j < wr.heap.size := fun j e => HO.out.lt j e
            have q2 : ∀ j, (Value.slice a5 0 c5).ownBlock = some j → wr.heap.size ≤ j ∧ j < w5.heap.size := fun j e => O5.out.lt j e
            have q3 : ∀ p ∈ L, ∀ j, (ptV p).ownBlock = some j → j < wr.heap.size := fun p hp j e => by
              obtain ⟨n, hn, rfl⟩ := List.getElem_of_mem hp
              exact ((HV.out.2 n hn (by rw [← HV.out.1]; exact hn)).2.lt j e).2
            refine ⟨?_, ?_, ?_, (below_on HB4.out b6).grown g2 (by simp; omega) (fun j e => (q1 j e).1)⟩
            · rw [pz_append, pz_two, List.length_append]
              exact g1
            · refine Pv.push ((HV.out.later b6).grown g2 (fun p hp j e e2 => HAp.out p hp j e e2)) (K, a5, 0, c5) (k + 1) (([] : List Int)) HKK.out ?_
              rw [HLM.out]
              exact own_kept (own_lower (own_later O5.out (below_alloc w5 _)) hwr) g2 (fun j e e2 => by have h1 := q1 j e2; have h2 := q2 j e; omega)
            · intro p hp j e1 e2
              rw [List.mem_append, List.mem_singleton] at hp
              rcases g3 with g3 | g3
              · rw [g3] at e2
                rcases hp with hp | rfl
                · exact HAp.out p hp j e1 e2
                · have h1 := q1 j e2
                  have h2 := q2 j e1
                  omega
              · rw [g3] at e2
                have e3 := Option.some.inj e2
                rcases hp with hp | rfl
                · have := q3 p hp j e1
                  omega
                · have h2 := q2 j e1
                  omega
          clear JC JF1 JH ho5 hb5 hlm
          go_wp2_with (at_builtin; refine wpList_append_own_at _ rfl _ _ 33 rfl w4.heap.size 32 i0 (.agg #[.int .i64 0, .slice none 0 0]) 2 32 Tryz.underlying33 hi0 hz0 hz1 hz2 rfl (by decide) _ L.length (pz L) rfl ((own_later HO.out B5.out).alloc _) ⟨w5.heap.size, 0, none⟩ 1 1 [.int .i64 K, .slice a5 0 c5] rfl rfl ?c1 ?c2 (by unfold maxLen; omega) (by omega) ?c5 ?_)
          case c1 =>
            intro j u hj
            match j, hj with
            | 0, hj => simp at hj; subst hj; simp [Addr.add]
            | 1, hj => simp at hj; subst hj; simp [Addr.add]
          case c2 =>
            intro u hu
            simp at hu
            rcases hu with rfl | rfl <;> rfl
          case c5 =>
            have h1 := HB4.out.size
            have h2 := B5.out.size
            simp
            omega
          intro v' w' g1 g2 _ g3
          obtain ⟨r1, r2, r3, r4⟩ := HA.out v' w' g1 g2 g3
          have R1 := hide r1
          have R2 := hide r2
          have R3 := hide r3
          have R4 := hide r4
          clear g1 g2 g3 r1 r2 r3 r4 HA
          go_wp2_with fail
          go_roundw
          case rel =>
            refine ⟨k + 1, ([] : List Int), L ++ [(K, a5, 0, c5)], R ++ [(k + 1, ([] : List Int))], by omega, by have hKK := HKK.out; subst hKK; go_num, by simp, ⟨?_, ?_⟩, by simp; omega, ?_, R1, R2, R3, R4⟩
            · rw [HP.out.1, HP2.out, List.append_assoc]
              rfl
            · have h1 := HP.out.2
              rw [HF2.out] at h1
              simp only [List.length_nil] at h1 ⊢
              omega
            · exact .inl ⟨rfl, rfl⟩
          case measure => have hKK := HKK.out; simp only [intOf]; omega
        · have JC := hide (clone_nums _ _ wr ((take_iz h81 h82 h83 hmr).later HB4.out) (by rw [List.length_take]; omega))
          have H83 := hide h83
          have H82 := hide h82
          have tm : (m : Int) ≤ (rest.length : Int) := by omega
          have tm2 : (m : Int) ≤ (c8 : Int) := by omega
          clear h83 h82
          go_wp2_with fail
          refine JH.out.mono ?_
          rintro e wr ⟨rfl, rfl⟩
          go_wp2_with fail
          refine JF1.out.mono ?_
          rintro e wr ⟨rfl, rfl⟩
          go_wp2_with fail
          refine JC.out.mono ?_
          rintro e w5 ⟨v5, rfl, ho5, hb5⟩
          have hlm : (rest.take m).length = m := by rw [List.length_take]; omega
          rw [hlm] at ho5
          obtain ⟨a5, c5, rfl⟩ := own_len ho5
          have O5 := hide ho5
          have B5 := hide hb5
          have HLM := hide hlm
          have HA : Hid (∀ (v' : Value) (w' : World), w'.ownsRow w4.heap.size 32 2 v' (L.length + 1) (pz L ++ [.int .i64 K, .slice a5 m c5]) → (w5.alloc (.cells #[.int .i64 K, .slice a5 m c5] 32)).grownBy w' (Value.slice a10 L.length c10).ownBlock → (v'.ownBlock = (Value.slice a10 L.length c10).ownBlock ∨ v'.ownBlock = some (w5.heap.size + 1)) → w'.ownsRow w4.heap.size 32 2 v' (L ++ [(K, a5, m, c5)]).length (pz (L ++ [(K, a5, m, c5)])) ∧ Pv w4.heap.size w' (L ++ [(K, a5, m, c5)]) (R ++ [(k + 1, rest.take m)]) ∧ (∀ p ∈ L ++ [(K, a5, m, c5)], Ap (ptV p) v') ∧ Below w4.heap.size w4 w') := fun v' w' g1 g2 g3 => by
            have b6 : Below wr.heap.size wr (w5.alloc (.cells #[.int .i64 K, .slice a5 m c5] 32)) := below_on B5.out (below_alloc w5 _)
            have hwr := HB4.out.size
            have hw5 := B5.out.size
            have q1 : ∀ j, (Value.slice a10 L.length c10).ownBlock = some j → w4.heap.size ≤ j ∧ j < wr.heap.size := fun j e => HO.out.lt j e
            have q2 : ∀ j, (Value.slice a5 m c5).ownBlock = some j → wr.heap.size ≤ j ∧ j < w5.heap.size := fun j e => O5.out.lt j e
            have q3 : ∀ p ∈ L, ∀ j, (ptV p).ownBlock = some j → j < wr.heap.size := fun p hp j e => by
              obtain ⟨n, hn, rfl⟩ := List.getElem_of_mem hp
              exact ((HV.out.2 n hn (by rw [← HV.out.1]; exact hn)).2.lt j e).2
            refine ⟨?_, ?_, ?_, (below_on HB4.out b6).grown g2 (by simp; omega) (fun j e => (q1 j e).1)⟩
            · rw [pz_append, pz_two, List.length_append]
              exact g1
            · refine Pv.push ((HV.out.later b6).grown g2 (fun p hp j e e2 => HAp.out p hp j e e2)) (K, a5, m, c5) (k + 1) (rest.take m) HKK.out ?_
              rw [HLM.out]
              exact own_kept (own_lower (own_later O5.out (below_alloc w5 _)) hwr) g2 (fun j e e2 => by have h1 := q1 j e2; have h2 := q2 j e; omega)
            · intro p hp j e1 e2
              rw [List.mem_append, List.mem_singleton] at hp
              rcases g3 with g3 | g3
              · rw [g3] at e2
                rcases hp with hp | rfl
                · exact HAp.out p hp j e1 e2
                · have h1 := q1 j e2
                  have h2 := q2 j e1
                  omega
              · rw [g3] at e2
                have e3 := Option.some.inj e2
                rcases hp with hp | rfl
                · have := q3 p hp j e1
                  omega
                · have h2 := q2 j e1
                  omega
          clear JC JF1 JH ho5 hb5 hlm
          go_wp2_with (at_builtin; refine wpList_append_own_at _ rfl _ _ 33 rfl w4.heap.size 32 i0 (.agg #[.int .i64 0, .slice none 0 0]) 2 32 Tryz.underlying33 hi0 hz0 hz1 hz2 rfl (by decide) _ L.length (pz L) rfl ((own_later HO.out B5.out).alloc _) ⟨w5.heap.size, 0, none⟩ 1 1 [.int .i64 K, .slice a5 m c5] rfl rfl ?c1 ?c2 (by unfold maxLen; omega) (by omega) ?c5 ?_)
          case c1 =>
            intro j u hj
            match j, hj with
            | 0, hj => simp at hj; subst hj; simp [Addr.add]
            | 1, hj => simp at hj; subst hj; simp [Addr.add]
          case c2 =>
            intro u hu
            simp at hu
            rcases hu with rfl | rfl <;> rfl
          case c5 =>
            have h1 := HB4.out.size
            have h2 := B5.out.size
            simp
            omega
          intro v' w' g1 g2 _ g3
          obtain ⟨r1, r2, r3, r4⟩ := HA.out v' w' g1 g2 g3
          have R1 := hide r1
          have R2 := hide r2
          have R3 := hide r3
          have R4 := hide r4
          clear g1 g2 g3 r1 r2 r3 r4 HA
          go_wp2_with fail
          go_roundw
          case rel =>
            refine ⟨k + 1, rest.drop m, L ++ [(K, a5, m, c5)], R ++ [(k + 1, rest.take m)], by omega, by have hKK := HKK.out; subst hKK; go_num, by rw [List.length_drop]; omega, ⟨?_, ?_⟩, by simp; omega, ?_, R1, R2, R3, R4⟩
            · rw [HP.out.1, HP2.out, List.append_assoc]
              rfl
            · rw [List.length_drop, HP.out.2, HF2.out]
              omega
            · by_cases hcm : c8 = m
              · rw [if_pos hcm]
                exact drop_jz h81 H82.out H83.out hmr ov (fun e => by omega)
              · rw [if_neg hcm]
                exact drop_jz h81 H82.out H83.out hmr (ov + m) (fun _ => rfl)
          case measure => have hKK := HKK.out; simp only [intOf]; omega
    · obtain rfl : k = ks.length := by omega
      have t1 : ¬ ((ks.length + 1 : Nat) : Int) ≤ (ks.length : Int) := by omega
      have hp := HP.out.1
      rw [List.drop_length] at hp
      have hp2 : partsL ks s 1 row = R := by rw [hp]; simp [partsL]
      have HP2 := hide hp2
      obtain ⟨a10, c10, rfl⟩ := own_len HO.out
      have hb4 := B4.out.size
      have HFin : Hid (wr.ownsRow w.heap.size 32 2 (.slice a10 L.length c10) L.length (pz L) ∧ Pv w.heap.size wr L (partsL ks s 1 row) ∧ Below w.heap.size w wr) := ⟨own_lower HO.out hb4, by rw [HP2.out]; exact ⟨HV.out.1, fun i h1 h2 => ⟨(HV.out.2 i h1 h2).1, own_lower (HV.out.2 i h1 h2).2 hb4⟩⟩, HB.out⟩
      clear hp hp2 HP2 HP JFd
      obtain ⟨K, hK⟩ : ∃ K : Int, K = ((ks.length + 1 : Nat) : Int) := ⟨_, rfl⟩
      rw [← hK] at t1 ⊢
      clear hK
      go_wp2_with fail
      go_ret
      exact ⟨_, rfl, L, HFin.out⟩
end
end Go.Proofs.YtafmiolehlagkaaGreat

/-
  World: what a whole world is, and that it stays one.
-/
namespace Go.Proofs.YtafmiolehlagkaaGreat
open Go.RowKit
set_option maxRecDepth 100000
theorem nodup_at {α : Type} {l : List α} (hn : l.Nodup) {i j : Nat} (hi : i < l.length) (hj : j < l.length) (h : l[i] = l[j]) : i = j := by
  have hp := List.pairwise_iff_getElem.1 hn
  rcases Nat.lt_trichotomy i j with c | c | c
  · exact absurd h (hp i j hi hj c)
  · exact c
  · exact absurd h.symm (hp j i hj hi c)
theorem mem_rem {α : Type} [Inhabited α] {l : List α} (hn : l.Nodup) {r : Nat} (hr : r < l.length) (e : α) : e ∈ rem l r ↔ e ∈ l ∧ e ≠ l[r] := by
  constructor
  · intro h
    obtain ⟨i, hi, rfl⟩ := List.getElem_of_mem h
    have hi2 := hi
    rw [rem_len] at hi2
    rw [rem_at l r i hr hi]
    by_cases c : i = r
    · rw [if_pos c]
      exact ⟨List.getElem_mem _, fun e => by have := nodup_at hn _ _ e; omega⟩
    · rw [if_neg c]
      exact ⟨List.getElem_mem _, fun e => c (nodup_at hn _ _ e)⟩
  · rintro ⟨h, hne⟩
    obtain ⟨j, hj, rfl⟩ := List.getElem_of_mem h
    have hjr : j ≠ r := fun e => hne (by subst e; rfl)
    by_cases c : j = l.length - 1
    · have hri : r < (rem l r).length := by rw [rem_len]; omega
      have := rem_at l r r hr hri
      rw [if_pos rfl] at this
      subst c
      rw [← this]
      exact List.getElem_mem _
    · have hji : j < (rem l r).length := by rw [rem_len]; omega
      have := rem_at l r j hr hji
      rw [if_neg hjr] at this
      rw [← this]
      exact List.getElem_mem _
theorem rem_nodup {α : Type} [Inhabited α] {l : List α} (hn : l.Nodup) {r : Nat} (hr : r < l.length) : (rem l r).Nodup := by
  refine List.pairwise_iff_getElem.2 (fun i j hi hj hij => ?_)
  have hi2 := hi
  have hj2 := hj
  rw [rem_len] at hi2 hj2
  rw [rem_at l r i hr hi, rem_at l r j hr hj]
  intro e
  by_cases c : i = r
  · rw [if_pos c, if_neg (by omega)] at e
    have := nodup_at hn _ _ e
    omega
  · rw [if_neg c] at e
    by_cases d : j = r
    · rw [if_pos d] at e
      have := nodup_at hn _ _ e
      omega
    · rw [if_neg d] at e
      have := nodup_at hn _ _ e
      omega
/-- A set of some of these kinds. -/
def Sb (ks : List Kind) (s : Nat) : Prop := ∀ k, s.testBit k = true → 1 ≤ k ∧ k ≤ ks.length
/-- A whole world: each is in the table of its set, and nowhere else; a table has as many columns as its set has fields, and a row at least. -/
def Wi (ks : List Kind) (f : Int × Int → Option Nat) (q : Nat → Option Nat) (T : Nat → Ts) : Prop :=
  (∀ e s, f e = some s → s < 8192 ∧ (∃ g, q s = some g) ∧ e ∈ (T s).1) ∧
  ∀ s g, q s = some g → (s < 8192 ∧ Sb ks s) ∧ (T s).2.length = fsum ks s 1 ∧ (T s).1.Nodup ∧ (∀ e ∈ (T s).1, f e = some s) ∧ (T s).1 ≠ [] ∧ ∀ c ∈ (T s).2, c.length = (T s).1.length
section
variable {ks : List Kind} {f : Int × Int → Option Nat} {q : Nat → Option Nat} {T : Nat → Ts}
theorem Wi.start (ks : List Kind) (T : Nat → Ts) : Wi ks (fun _ => none) (fun _ => none) T := ⟨fun _ _ h => (by cases h), fun _ _ h => (by cases h)⟩
theorem addRow_len (cols : List (List Int)) (vals : List Int) : (addRow cols vals).length = cols.length := pcol_len _ _ _
theorem remCols_len (cols : List (List Int)) (row : Nat) : (remCols cols row).length = cols.length := prem_len _ _ _
theorem addRow_at (cols : List (List Int)) (vals : List Int) (j : Nat) (hj : j < cols.length) (hj2 : j < (addRow cols vals).length) : (addRow cols vals)[j] = cols[j] ++ [vals.getD j 0] := (pcol_at cols vals cols.length j hj).trans (if_pos hj)
theorem remCols_at (cols : List (List Int)) (row j : Nat) (hj : j < cols.length) (hj2 : j < (remCols cols row).length) : (remCols cols row)[j] = rem cols[j] row := (prem_at cols row cols.length j hj).trans (if_pos hj)
/-- One goes. -/
theorem Wi.drop (h : Wi ks f q T) {e : Int × Int} {s r : Nat} (hf : f e = some s) (hr : r < (T s).1.length) (hx : (T s).1[r] = e) : Wi ks (fun x => if x = e then none else f x) (lessQ q T s) (lessT T s r) := by
  obtain ⟨h1, h2⟩ := h
  obtain ⟨hs, ⟨g, hg⟩, hm⟩ := h1 e s hf
  obtain ⟨k1, k2, k3, k4, k5, k6⟩ := h2 s g hg
  have hqs : ∀ s' g', lessQ q T s s' = some g' → q s' = some g' ∧ (s' = s → (T s).1.length ≠ 1) := fun s' g' e' => by
    unfold lessQ at e'
    by_cases c : (T s).1.length = 1
    · rw [if_pos c] at e'
      by_cases d : s' = s
      · rw [if_pos d] at e'; cases e'
      · rw [if_neg d] at e'
        exact ⟨e', fun x => absurd x d⟩
    · rw [if_neg c] at e'
      exact ⟨e', fun _ => c⟩
  refine ⟨fun x s' hx' => ?_, fun s' g' hg' => ?_⟩
  · dsimp only at hx' ⊢
    by_cases c : x = e
    · rw [if_pos c] at hx'; cases hx'
    · rw [if_neg c] at hx'
      obtain ⟨m1, ⟨g2, m2⟩, m3⟩ := h1 x s' hx'
      by_cases d : s' = s
      · subst d
        have hne : (T s').1.length ≠ 1 := fun e1 => by
          obtain ⟨j, hj, hjx⟩ := List.getElem_of_mem m3
          obtain rfl : j = r := by omega
          exact c (hjx.symm.trans hx)
        refine ⟨m1, ⟨g2, ?_⟩, ?_⟩
        · unfold lessQ
          rw [if_neg hne]
          exact m2
        · simp only [lessT, if_true]
          exact (mem_rem k3 hr x).2 ⟨m3, fun e' => c (e'.trans hx)⟩
      · refine ⟨m1, ⟨g2, ?_⟩, ?_⟩
        · unfold lessQ
          by_cases c1 : (T s).1.length = 1
          · rw [if_pos c1]
            exact (if_neg d).trans m2
          · rw [if_neg c1]
            exact m2
        · simp only [lessT, if_neg d]
          exact m3
  · obtain ⟨n1, n2⟩ := hqs s' g' hg'
    obtain ⟨m1, m2, m3, m4, m5, m6⟩ := h2 s' g' n1
    by_cases d : s' = s
    · subst d
      simp only [lessT, if_true]
      refine ⟨m1, (remCols_len _ _).trans m2, rem_nodup m3 hr, fun x hx' => ?_, fun e' => ?_, fun c hc => ?_⟩
      · obtain ⟨a1, a2⟩ := (mem_rem m3 hr x).1 hx'
        rw [if_neg (fun e' => a2 (e'.trans hx.symm))]
        exact m4 x a1
      · have := congrArg List.length e'
        rw [rem_len] at this
        have := n2 rfl
        simp at *
        omega
      · obtain ⟨j, hj, rfl⟩ := List.getElem_of_mem hc
        have hj2 := hj
        rw [remCols_len] at hj2
        rw [remCols_at _ _ _ hj2, rem_len, rem_len, m6 _ (List.getElem_mem hj2)]
    · simp only [lessT, if_neg d]
      refine ⟨m1, m2, m3, fun x hx' => ?_, m5, m6⟩
      rw [if_neg (fun e' => ?_)]
      · exact m4 x hx'
      · subst e'
        have := m4 x hx'
        rw [hf] at this
        exact d (Option.some.inj this).symm
/-- One comes. -/
theorem Wi.put (h : Wi ks f q T) {e : Int × Int} {s g : Nat} {vals : List Int} (hf : f e = none) (hs : s < 8192) (hsb : Sb ks s) (hv : vals.length = fsum ks s 1) : Wi ks (fun x => if x = e then some s else f x) (fun x => if x = s then some g else q x) (moreT q T s e vals) := by
  obtain ⟨h1, h2⟩ := h
  have hb : (baseT q T s vals.length).2.length = fsum ks s 1 ∧ (baseT q T s vals.length).1.Nodup ∧ (∀ x ∈ (baseT q T s vals.length).1, f x = some s) ∧ ∀ c ∈ (baseT q T s vals.length).2, c.length = (baseT q T s vals.length).1.length := by
    unfold baseT
    cases hq : q s with
    | none => simp [hv]
    | some g0 =>
      obtain ⟨_, k2, k3, k4, _, k6⟩ := h2 s g0 hq
      simp only [Option.isSome_some, if_true]
      exact ⟨k2, k3, k4, k6⟩
  obtain ⟨b1, b2, b3, b4⟩ := hb
  have hbm : ∀ x s', f x = some s' → s' = s → x ∈ (baseT q T s vals.length).1 := fun x s' hx e' => by
    subst e'
    obtain ⟨_, ⟨g2, m2⟩, m3⟩ := h1 x s' hx
    unfold baseT
    rw [m2]
    simpa using m3
  refine ⟨fun x s' hx' => ?_, fun s' g' hg' => ?_⟩
  · dsimp only at hx' ⊢
    by_cases c : x = e
    · rw [if_pos c] at hx'
      obtain rfl := Option.some.inj hx'
      exact ⟨hs, ⟨g, if_pos rfl⟩, by simp [moreT, c]⟩
    · rw [if_neg c] at hx'
      obtain ⟨m1, ⟨g2, m2⟩, m3⟩ := h1 x s' hx'
      by_cases d : s' = s
      · refine ⟨m1, ⟨g, if_pos d⟩, ?_⟩
        simp only [moreT, if_pos d, List.mem_append]
        exact .inl (hbm x s' hx' d)
      · refine ⟨m1, ⟨g2, (if_neg d).trans m2⟩, ?_⟩
        simp only [moreT, if_neg d]
        exact m3
  · dsimp only at hg' ⊢
    by_cases d : s' = s
    · subst d
      simp only [moreT, if_true]
      refine ⟨⟨hs, hsb⟩, (addRow_len _ _).trans b1, ?_, fun x hx' => ?_, by simp, fun c hc => ?_⟩
      · rw [List.nodup_append]
        refine ⟨b2, by simp, fun x hx' y hy e' => ?_⟩
        simp only [List.mem_singleton] at hy
        have := b3 x hx'
        rw [e', hy, hf] at this
        cases this
      · rcases List.mem_append.1 hx' with c | c
        · by_cases c2 : x = e
          · rw [if_pos c2]
          · rw [if_neg c2]
            exact b3 x c
        · rw [if_pos (List.mem_singleton.1 c)]
      · obtain ⟨j, hj, rfl⟩ := List.getElem_of_mem hc
        have hj2 := hj
        rw [addRow_len] at hj2
        rw [addRow_at _ _ _ hj2, List.length_append, List.length_append, b4 _ (List.getElem_mem hj2)]
        rfl
    · rw [if_neg d] at hg'
      obtain ⟨m1, m2, m3, m4, m5, m6⟩ := h2 s' g' hg'
      simp only [moreT, if_neg d]
      refine ⟨m1, m2, m3, fun x hx' => ?_, m5, m6⟩
      rw [if_neg (fun e' => ?_)]
      · exact m4 x hx'
      · subst e'
        have := m4 x hx'
        rw [hf] at this
        cases this
end
/-! ### Parts that may come -/
theorem bit_or (s k j : Nat) : (s ||| 2 ^ k).testBit j = (s.testBit j || decide (k = j)) := by
  rw [Nat.testBit_or, Nat.testBit_two_pow]
theorem fsum_low : ∀ (ks : List Kind) (s k k0 : Nat), k < k0 → fsum ks (s ||| 2 ^ k) k0 = fsum ks s k0
  | [], _, _, _, _ => rfl
  | kd :: t, s, k, k0, h => by
    simp only [fsum]
    rw [fsum_low t s k (k0 + 1) (by omega), bit_or, decide_eq_false (by omega), Bool.or_false]
theorem fsum_or : ∀ (ks : List Kind) (s k k0 : Nat), s.testBit k = false → k0 ≤ k → k < k0 + ks.length → fsum ks (s ||| 2 ^ k) k0 = fsum ks s k0 + (ks.getD (k - k0) (ByteArray.empty, [])).2.length
  | [], _, _, _, _, h1, h2 => by simp at h2; omega
  | kd :: t, s, k, k0, h0, h1, h2 => by
    simp only [fsum]
    by_cases c : k = k0
    · subst c
      rw [fsum_low t s k (k + 1) (by omega), bit_or, decide_eq_true rfl, Bool.or_true, h0]
      simp
      omega
    · rw [fsum_or t s k (k0 + 1) h0 (by omega) (by simp at h2; omega), bit_or, decide_eq_false c, Bool.or_false]
      have : k - k0 = (k - (k0 + 1)) + 1 := by omega
      rw [this, List.getD_cons_succ]
      omega
def nvals (l : List Pt) : Nat := l.foldl (fun n p => n + p.2.2.1) 0
theorem nvals_add : ∀ (l : List Pt) (n : Nat), l.foldl (fun n p => n + p.2.2.1) n = n + nvals l
  | [], n => rfl
  | p :: t, n => by
    show t.foldl (fun n p => n + p.2.2.1) (n + p.2.2.1) = n + t.foldl (fun n p => n + p.2.2.1) (0 + p.2.2.1)
    rw [nvals_add t (n + p.2.2.1), nvals_add t (0 + p.2.2.1)]
    omega
theorem nvals_cons (p : Pt) (t : List Pt) : nvals (p :: t) = p.2.2.1 + nvals t := by
  show t.foldl (fun n p => n + p.2.2.1) (0 + p.2.2.1) = _
  rw [nvals_add]
  omega
theorem nvals_flat {V : Pt → List Int} : ∀ (l : List Pt), (∀ p ∈ l, (V p).length = p.2.2.1) → (l.flatMap V).length = nvals l
  | [], _ => rfl
  | p :: t, h => by
    rw [List.flatMap_cons, List.length_append, nvals_cons, nvals_flat t (fun x hx => h x (List.mem_cons_of_mem _ hx)), h p (by simp)]
/-- What comes one behind the other: kinds that differ, and as many values as there are fields. -/
theorem come_all (ks : List Kind) : ∀ (l : List Pt) (s : Nat), comeL ks s l = 0 → (∀ p ∈ l, 1 ≤ p.1 ∧ p.1 ≤ (ks.length : Int) ∧ s.testBit p.1.toNat = false ∧ p.2.2.1 = (ks.getD (p.1.toNat - 1) (ByteArray.empty, [])).2.length) ∧ (l.map (fun p => p.1.toNat - 1)).Nodup ∧ fsum ks (l.foldl (fun s p => s ||| 2 ^ p.1.toNat) s) 1 = fsum ks s 1 + nvals l
  | [], s, _ => ⟨fun _ h => (by cases h), List.nodup_nil, rfl⟩
  | p :: t, s, h => by
    unfold comeL at h
    have h0 : comeS ks s p.1 p.2.2.1 = 0 := by
      by_cases c : comeS ks s p.1 p.2.2.1 = 0
      · exact c
      · rw [if_neg c] at h
        exact h
    rw [if_pos h0] at h
    obtain ⟨a1, a2, a3, a4⟩ := comeS_zero h0
    obtain ⟨b1, b2, b3⟩ := come_all ks t _ h
    refine ⟨fun x hx => ?_, ?_, ?_⟩
    · rcases List.mem_cons.1 hx with rfl | hx
      · exact ⟨a1, a2, a3, a4⟩
      · obtain ⟨c1, c2, c3, c4⟩ := b1 x hx
        rw [bit_or] at c3
        simp only [Bool.or_eq_false_iff] at c3
        exact ⟨c1, c2, c3.1, c4⟩
    · rw [List.map_cons, List.nodup_cons]
      refine ⟨fun hm => ?_, b2⟩
      obtain ⟨x, hx, e⟩ := List.mem_map.1 hm
      obtain ⟨c1, c2, c3, c4⟩ := b1 x hx
      rw [bit_or] at c3
      simp only [Bool.or_eq_false_iff, decide_eq_false_iff_not] at c3
      exact c3.2 (by omega)
    · rw [List.foldl_cons, b3, nvals_cons, fsum_or ks s p.1.toNat 1 a3 (by omega) (by omega), a4]
      omega
theorem come_twelve {ks : List Kind} {l : List Pt} (h : comeL ks 0 l = 0) (hk : ks.length ≤ 12) : l.length ≤ 12 ∧ (∀ p ∈ l, 1 ≤ p.1 ∧ p.1 ≤ 12) ∧ fsum ks (setOf l) 1 = nvals l := by
  obtain ⟨h1, h2, h3⟩ := come_all ks l 0 h
  refine ⟨?_, fun p hp => ⟨(h1 p hp).1, by have := (h1 p hp).2.1; omega⟩, ?_⟩
  · have := nodup_len 12 _ h2 (fun x hx => by
      obtain ⟨p, hp, rfl⟩ := List.mem_map.1 hx
      have := h1 p hp
      omega)
    rwa [List.length_map] at this
  · have e : ∀ (ks : List Kind) (k : Nat), fsum ks 0 k = 0 := fun ks => by
      induction ks with
      | nil => intro k; rfl
      | cons a t ih => intro k; simp [fsum, ih]
    show fsum ks (l.foldl (fun s p => s ||| 2 ^ p.1.toNat) 0) 1 = nvals l
    rw [h3, e]
    omega
theorem come_sb {ks : List Kind} {l : List Pt} (h : comeL ks 0 l = 0) : Sb ks (setOf l) := fun k hk => by
  rw [setOf_bit, List.any_eq_true] at hk
  obtain ⟨p, hp, e⟩ := hk
  have := (come_all ks l 0 h).1 p hp
  have := beq_iff_eq.1 e
  omega
/-! ### Parts, as they are told -/
theorem partsL_mem : ∀ (ks : List Kind) (s k0 : Nat) (vals : List Int) (r : Nat × List Int), r ∈ partsL ks s k0 vals → k0 ≤ r.1 ∧ r.1 < k0 + ks.length ∧ s.testBit r.1 = true
  | [], _, _, _, _, h => by cases h
  | kd :: t, s, k0, vals, r, h => by
    unfold partsL at h
    by_cases c : s.testBit k0 = true
    · rw [if_pos c] at h
      rcases List.mem_cons.1 h with rfl | h
      · exact ⟨Nat.le_refl _, by simp, c⟩
      · have := partsL_mem t s (k0 + 1) _ r h
        simp only [List.length_cons]
        exact ⟨by omega, by omega, this.2.2⟩
    · rw [if_neg c] at h
      have := partsL_mem t s (k0 + 1) _ r h
      simp only [List.length_cons]
      exact ⟨by omega, by omega, this.2.2⟩
theorem partsL_all : ∀ (ks : List Kind) (s k0 : Nat) (vals : List Int) (k : Nat), k0 ≤ k → k < k0 + ks.length → s.testBit k = true → ∃ r ∈ partsL ks s k0 vals, r.1 = k
  | [], _, _, _, _, h1, h2, _ => by simp at h2; omega
  | kd :: t, s, k0, vals, k, h1, h2, h3 => by
    unfold partsL
    by_cases e : k = k0
    · subst e
      rw [if_pos h3]
      exact ⟨_, List.mem_cons_self, rfl⟩
    · simp only [List.length_cons] at h2
      by_cases c : s.testBit k0 = true
      · rw [if_pos c]
        obtain ⟨r, hr, e2⟩ := partsL_all t s (k0 + 1) (vals.drop kd.2.length) k (by omega) (by omega) h3
        exact ⟨r, List.mem_cons_of_mem _ hr, e2⟩
      · rw [if_neg c]
        exact partsL_all t s (k0 + 1) vals k (by omega) (by omega) h3
theorem partsL_pair : ∀ (ks : List Kind) (s k0 : Nat) (vals : List Int), (partsL ks s k0 vals).Pairwise (fun x y => x.1 < y.1)
  | [], _, _, _ => List.Pairwise.nil
  | kd :: t, s, k0, vals => by
    unfold partsL
    by_cases c : s.testBit k0 = true
    · rw [if_pos c]
      refine List.Pairwise.cons (fun r hr => ?_) (partsL_pair t s (k0 + 1) _)
      have := (partsL_mem t s (k0 + 1) _ r hr).1
      dsimp only
      omega
    · rw [if_neg c]
      exact partsL_pair t s (k0 + 1) vals
theorem partsL_len : ∀ (ks : List Kind) (s k0 : Nat) (vals : List Int), vals.length = fsum ks s k0 → ∀ r ∈ partsL ks s k0 vals, r.2.length = (ks.getD (r.1 - k0) (ByteArray.empty, [])).2.length
  | [], _, _, _, _, _, h => by cases h
  | kd :: t, s, k0, vals, hv, r, h => by
    unfold partsL at h
    unfold fsum at hv
    by_cases c : s.testBit k0 = true
    · rw [if_pos c] at h hv
      rcases List.mem_cons.1 h with rfl | h
      · simp only [Nat.sub_self, List.getD_cons_zero, List.length_take]
        omega
      · have h1 := partsL_len t s (k0 + 1) _ (by rw [List.length_drop]; omega) r h
        have h2 := (partsL_mem t s (k0 + 1) _ r h).1
        rw [h1, show r.1 - k0 = (r.1 - (k0 + 1)) + 1 by omega, List.getD_cons_succ]
    · rw [if_neg c] at h hv
      have h1 := partsL_len t s (k0 + 1) _ (by omega) r h
      have h2 := (partsL_mem t s (k0 + 1) _ r h).1
      rw [h1, show r.1 - k0 = (r.1 - (k0 + 1)) + 1 by omega, List.getD_cons_succ]
theorem partsL_flat : ∀ (ks : List Kind) (s k0 : Nat) (vals : List Int), vals.length = fsum ks s k0 → (partsL ks s k0 vals).flatMap (·.2) = vals
  | [], _, _, vals, hv => by
    simp [fsum] at hv
    simp [partsL, hv]
  | kd :: t, s, k0, vals, hv => by
    unfold partsL
    unfold fsum at hv
    by_cases c : s.testBit k0 = true
    · rw [if_pos c] at hv ⊢
      rw [List.flatMap_cons, partsL_flat t s (k0 + 1) _ (by rw [List.length_drop]; omega), List.take_append_drop]
    · rw [if_neg c] at hv ⊢
      exact partsL_flat t s (k0 + 1) vals (by omega)
/-- Parts that rise are told as they are. -/
theorem parts_of (V : Pt → List Int) : ∀ (ks : List Kind) (s k0 : Nat) (l : List Pt), (∀ p ∈ l, (k0 : Int) ≤ p.1 ∧ p.1 < ((k0 + ks.length : Nat) : Int) ∧ (V p).length = (ks.getD (p.1.toNat - k0) (ByteArray.empty, [])).2.length) → l.Pairwise (fun x y => x.1 < y.1) → (∀ k, k0 ≤ k → k < k0 + ks.length → (s.testBit k = true ↔ ∃ p ∈ l, p.1.toNat = k)) → partsL ks s k0 (l.flatMap V) = l.map (fun p => (p.1.toNat, V p))
  | [], s, k0, l, h1, _, _ => by
    cases l with
    | nil => rfl
    | cons p t =>
      have := h1 p (by simp)
      simp only [List.length_nil, Nat.add_zero] at this
      omega
  | kd :: t, s, k0, l, h1, h2, h3 => by
    unfold partsL
    by_cases c : s.testBit k0 = true
    · rw [if_pos c]
      obtain ⟨p, hp, hpk⟩ := (h3 k0 (Nat.le_refl _) (by simp)).1 c
      cases l with
      | nil => cases hp
      | cons p0 rest =>
        have hh := List.pairwise_cons.1 h2
        have hp0 : p = p0 := by
          rcases List.mem_cons.1 hp with e | e
          · exact e
          · have a1 := hh.1 p e
            have a2 := h1 p0 (by simp)
            have a3 := h1 p hp
            omega
        subst hp0
        have hl := (h1 p (by simp)).2.2
        rw [hpk, Nat.sub_self, List.getD_cons_zero] at hl
        rw [List.flatMap_cons, ← hl, List.take_left' rfl, List.drop_left' rfl, List.map_cons, hpk]
        congr 1
        refine parts_of V t s (k0 + 1) rest (fun x hx => ?_) hh.2 (fun k k1 k2 => ?_)
        · have a1 := h1 x (List.mem_cons_of_mem _ hx)
          have a2 := hh.1 x hx
          have a3 := h1 p (by simp)
          simp only [List.length_cons] at a1
          refine ⟨by omega, by omega, ?_⟩
          rw [a1.2.2, show x.1.toNat - k0 = (x.1.toNat - (k0 + 1)) + 1 by omega, List.getD_cons_succ]
        · rw [h3 k (by omega) (by simp only [List.length_cons]; omega)]
          constructor
          · rintro ⟨x, hx, e⟩
            rcases List.mem_cons.1 hx with rfl | hx
            · omega
            · exact ⟨x, hx, e⟩
          · rintro ⟨x, hx, e⟩
            exact ⟨x, List.mem_cons_of_mem _ hx, e⟩
    · rw [if_neg c]
      have hne : ∀ p ∈ l, p.1.toNat ≠ k0 := fun p hp e => c ((h3 k0 (Nat.le_refl _) (by simp)).2 ⟨p, hp, e⟩)
      refine parts_of V t s (k0 + 1) l (fun x hx => ?_) h2 (fun k k1 k2 => h3 k (by omega) (by simp only [List.length_cons]; omega))
      have a1 := h1 x hx
      have a2 := hne x hx
      simp only [List.length_cons] at a1
      refine ⟨by omega, by omega, ?_⟩
      rw [a1.2.2, show x.1.toNat - k0 = (x.1.toNat - (k0 + 1)) + 1 by omega, List.getD_cons_succ]
theorem fsum_le : ∀ (ks : List Kind) (s k : Nat), (∀ x ∈ ks, x.2.length ≤ 4) → fsum ks s k ≤ 4 * ks.length
  | [], _, _, _ => Nat.zero_le _
  | a :: t, s, k, h => by
    have h1 := h a (by simp)
    have h2 := fsum_le t s (k + 1) (fun x hx => h x (List.mem_cons_of_mem _ hx))
    simp only [fsum, List.length_cons]
    split <;> omega
end Go.Proofs.YtafmiolehlagkaaGreat

/-
  World: rows are put in order by their numbers: slices.SortFunc at rows, laid.
-/
namespace Go.Proofs.YtafmiolehlagkaaGreat
open Go.RowKit Go.Shelf Go.Lib Go.Sort
set_option maxRecDepth 100000
def renR : Ren := ⟨fun x => if x = 6 then 82 else if x = 14 then 153 else if x = 15 then 154 else if x = 20 then 184 else if x = 21 then 185 else if x = 22 then 186 else if x = 23 then 187 else if x = 24 then 188 else if x = 25 then 189 else if x = 26 then 190 else if x = 27 then 191 else if x = 28 then 192 else if x = 29 then 165 else if x = 46 then 213 else if x = 47 then 214 else if x = 48 then 215 else if x = 49 then 216 else if x = 50 then 217 else if x = 57 then 222 else x, fun x => if x = 22 then 78 else if x = 24 then 87 else if x = 25 then 145 else if x = 39 then 211 else if x = 45 then 230 else if x = 46 then 231 else if x = 50 then 176 else if x = 53 then 237 else if x = 55 then 165 else if x = 66 then 248 else if x = 70 then 252 else if x = 76 then 258 else if x = 77 then 166 else x, fun x => x⟩
set_option maxHeartbeats 8000000 in
theorem laidR : SlLaysF0.n6 Tryz.prog renR where
  mixed := by kernel_rfl
  f6 := ⟨"slices.SortFunc[[]hindcast/api.Row,hindcast/api.Row]", by decide, by kernel_rfl⟩
  f14 := ⟨"slices.pdqsortCmpFunc[hindcast/api.Row]", by decide, by kernel_rfl⟩
  f15 := by kernel_rfl
  f20 := ⟨"slices.insertionSortCmpFunc[hindcast/api.Row]", by decide, by kernel_rfl⟩
  f21 := ⟨"slices.heapSortCmpFunc[hindcast/api.Row]", by decide, by kernel_rfl⟩
  f22 := ⟨"slices.breakPatternsCmpFunc[hindcast/api.Row]", by decide, by kernel_rfl⟩
  f23 := ⟨"slices.choosePivotCmpFunc[hindcast/api.Row]", by decide, by kernel_rfl⟩
  f24 := ⟨"slices.reverseRangeCmpFunc[hindcast/api.Row]", by decide, by kernel_rfl⟩
  f25 := ⟨"slices.partialInsertionSortCmpFunc[hindcast/api.Row]", by decide, by kernel_rfl⟩
  f26 := ⟨"slices.partitionEqualCmpFunc[hindcast/api.Row]", by decide, by kernel_rfl⟩
  f27 := ⟨"slices.partitionCmpFunc[hindcast/api.Row]", by decide, by kernel_rfl⟩
  f28 := by kernel_rfl
  f29 := by kernel_rfl
  f46 := ⟨"slices.siftDownCmpFunc[hindcast/api.Row]", by decide, by kernel_rfl⟩
  f47 := by kernel_rfl
  f48 := by kernel_rfl
  f49 := ⟨"slices.medianAdjacentCmpFunc[hindcast/api.Row]", by decide, by kernel_rfl⟩
  f50 := ⟨"slices.medianCmpFunc[hindcast/api.Row]", by decide, by kernel_rfl⟩
  f57 := ⟨"slices.order2CmpFunc[hindcast/api.Row]", by decide, by kernel_rfl⟩
  t0 := by kernel_rfl
  a0 := fun w => by kernel_rfl
  z0 := fun w => by kernel_rfl
  v0 := fun w => by kernel_rfl
  t3 := by kernel_rfl
  a3 := fun w => by kernel_rfl
  z3 := fun w => by kernel_rfl
  v3 := fun w => by kernel_rfl
  t4 := by kernel_rfl
  a4 := fun w => by kernel_rfl
  z4 := fun w => by kernel_rfl
  v4 := fun w => by kernel_rfl
  t5 := by kernel_rfl
  a5 := fun w => by kernel_rfl
  z5 := fun w => by kernel_rfl
  v5 := fun w => by kernel_rfl
  t9 := by kernel_rfl
  a9 := fun w => by kernel_rfl
  z9 := fun w => by kernel_rfl
  v9 := fun w => by kernel_rfl
  t22 := by kernel_rfl
  a22 := fun w => by kernel_rfl
  z22 := fun w => by kernel_rfl
  v22 := fun w => by kernel_rfl
  t25 := by kernel_rfl
  a25 := fun w => by kernel_rfl
  z25 := fun w => by kernel_rfl
  v25 := fun w => by kernel_rfl
  t39 := by kernel_rfl
  a39 := fun w => by kernel_rfl
  z39 := fun w => by kernel_rfl
  v39 := fun w => by kernel_rfl
  t45 := by kernel_rfl
  a45 := fun w => by kernel_rfl
  z45 := fun w => by kernel_rfl
  v45 := fun w => by kernel_rfl
  t46 := by kernel_rfl
  a46 := fun w => by kernel_rfl
  z46 := fun w => by kernel_rfl
  v46 := fun w => by kernel_rfl
  t50 := by kernel_rfl
  a50 := fun w => by kernel_rfl
  z50 := fun w => by kernel_rfl
  v50 := fun w => by kernel_rfl
  t53 := by kernel_rfl
  a53 := fun w => by kernel_rfl
  z53 := fun w => by kernel_rfl
  v53 := fun w => by kernel_rfl
  t55 := by kernel_rfl
  a55 := fun w => by kernel_rfl
  z55 := fun w => by kernel_rfl
  v55 := fun w => by kernel_rfl
  t66 := by kernel_rfl
  a66 := fun w => by kernel_rfl
  z66 := fun w => by kernel_rfl
  v66 := fun w => by kernel_rfl
  t70 := by kernel_rfl
  a70 := fun w => by kernel_rfl
  z70 := fun w => by kernel_rfl
  v70 := fun w => by kernel_rfl
  t76 := by kernel_rfl
  a76 := fun w => by kernel_rfl
  z76 := fun w => by kernel_rfl
  v76 := fun w => by kernel_rfl
  t77 := by kernel_rfl
  a77 := fun w => by kernel_rfl
  z77 := fun w => by kernel_rfl
  v77 := fun w => by kernel_rfl
end Go.Proofs.YtafmiolehlagkaaGreat

/-
  World: ranging over the map of sets.
-/
namespace Go.Proofs.YtafmiolehlagkaaGreat
open Go.RowKit
set_option maxRecDepth 100000
theorem wf_in {x : Int} (h : (Lit.int .i64 x).wf = true) : -9223372036854775808 ≤ x ∧ x ≤ 9223372036854775807 := by
  simp [Lit.wf, IntKind.min, IntKind.max, IntKind.signed, IntKind.bits] at h
  exact h
theorem key_inv {v : Value} {kl : Lit} (h : keyOf Tryz.prog 29 v = some kl) : ∃ e : Int × Int, v = evz e ∧ InB e := by
  have hk : Tryz.prog.keyType 29 = true := by kernel_rfl
  have hc : Tryz.prog.cellsOf 29 = 2 := by kernel_rfl
  have hc3 : Tryz.prog.cellsOf 3 = 1 := by kernel_rfl
  obtain ⟨d, hd⟩ : ∃ d, Tryz.prog.types.size + 1 = d + 2 := ⟨275, by kernel_rfl⟩
  unfold keyOf at h
  rw [Tryz.underlying29] at h
  simp only [hk, Bool.true_and] at h
  split at h
  · rename_i hf
    rw [Option.map_eq_some_iff] at h
    obtain ⟨ls, hl, -⟩ := h
    rw [hd] at hl
    have hv : ∃ x y, v = .agg #[x, y] := by
      unfold Value.formed at hf
      rw [Tryz.underlying29] at hf
      split at hf
      · rename_i cs
        simp only [hc, beq_iff_eq] at hf
        obtain ⟨l⟩ := cs
        match l, hf with
        | [x, y], _ => exact ⟨x, y, rfl⟩
      · cases hf
      · cases hf
    obtain ⟨x, y, rfl⟩ := hv
    have key : ∀ (z : Value) (l : List Lit), Tryz.prog.keyLits (d + 1) 3 [z] = some l → ∃ a, z = .int .i64 a ∧ (Lit.int .i64 a).wf = true := by
      intro z l hz
      cases z <;> simp [Program.keyLits, Tryz.underlying3] at hz
      rename_i q n
      obtain ⟨⟨rfl, h2⟩, -⟩ := hz
      exact ⟨n, rfl, h2⟩
    unfold Program.keyLits at hl
    rw [Tryz.underlying29] at hl
    generalize hG : Tryz.prog.keyLits (d + 1) = G at *
    simp [Value.cells, hc, hc3, List.mapM_cons] at hl
    cases hx : G 3 [x] with
    | none => rw [hx] at hl; simp at hl
    | some lx =>
      cases hy : G 3 [y] with
      | none => rw [hx, hy] at hl; simp at hl
      | some ly =>
        obtain ⟨a, rfl, ha⟩ := key x lx hx
        obtain ⟨b, rfl, hb⟩ := key y ly hy
        exact ⟨(a, b), rfl, wf_in ha, wf_in hb⟩
  · cases h
/-- A range over a map of entities under way: E: who came. -/
def Rg (w : World) (gm r n : Nat) (f : Int × Int → Option Nat) (E : List (Int × Int)) (cnt : Nat) : Prop :=
  ∃ (D : DataW Unit) (left : Lit → Bool), w.ranges Tryz.prog 29 (plainElem Tryz.prog 3) gm r n D left cnt ∧ E.Nodup ∧ (∀ e ∈ E, InB e ∧ (f e).isSome = true) ∧ ∀ e, InB e → ∀ kl, keyOf Tryz.prog 29 (evz e) = some kl → (left kl = true ↔ (f e).isSome = true ∧ e ∉ E)
section
variable {w w' : World} {gm r n cnt : Nat} {f : Int × Int → Option Nat} {E : List (Int × Int)}
theorem Rg.kept {row : Option Nat} (h : Rg w gm r n f E cnt) (hg : w.grownBy w' row) (h1 : some gm ≠ row) (h2 : some r ≠ row) : Rg w' gm r n f E cnt := by
  obtain ⟨D, left, a1, a2⟩ := h
  exact ⟨D, left, a1.kept hg h1 h2, a2⟩
theorem Rg.later (h : Rg w gm r n f E cnt) (hb : Below w.heap.size w w') : Rg w' gm r n f E cnt := h.kept (grown_later hb) (by simp) (by simp)
theorem Rg.left_eq (h : Rg w gm r n f E cnt) : w.rangeLeft gm r = cnt := by
  obtain ⟨D, left, a1, a2⟩ := h
  exact a1.left_eq
theorem Rg.start {D : DataW Unit} (h2 : ∀ e, InB e → ∀ kl, keyOf Tryz.prog 29 (evz e) = some kl → Maps.has D kl = (f e).isSome ∧ ∀ i, f e = some i → D.atKey kl (.lit (.int .i64 0)) = .lit (.int .i64 (i : Int))) (hr : w'.ranges Tryz.prog 29 (plainElem Tryz.prog 3) gm r n D (Maps.has D) (Maps.size D)) : Rg w' gm r n f [] (Maps.size D) :=
  ⟨D, _, hr, List.nodup_nil, fun e h => (by cases h), fun e he kl hk => (by rw [(h2 e he kl hk).1]; simp)⟩
theorem Rg.done (h : Rg w gm r n f E cnt) (hl : cnt = 0) : ∀ e, InB e → (f e).isSome = true → e ∈ E := by
  obtain ⟨D, left, a1, -, -, a4⟩ := h
  rcases a1.next keyed32 0 with ⟨_, b2, _⟩ | ⟨key, v, kl, y, w', cnt', _, _, _, _, _, _, c7, _⟩
  · intro e he hf
    obtain ⟨kl, hkl⟩ := key_of e he
    by_cases c : e ∈ E
    · exact c
    · have := (a4 e he kl hkl).2 ⟨hf, c⟩
      rw [b2 kl] at this
      cases this
  · omega
/-- The next one: nobody is left, or one comes. -/
theorem Rg.next (h : Rg w gm r n f E cnt) (ty : TypeId) :
    (cnt = 0 ∧ (Instr.next (.pointer (some ⟨r, 0, none⟩)) false ty).run Tryz.prog w = .ok (.tuple #[.bool false]) w) ∨
    ∃ (a b c : Int) (w' : World) (cnt' : Nat), InB (a, b) ∧ (f (a, b)).isSome = true ∧ (a, b) ∉ E ∧ (Instr.next (.pointer (some ⟨r, 0, none⟩)) false ty).run Tryz.prog w = .ok (.tuple #[.bool true, .agg #[.int .i64 a, .int .i64 b], .int .i64 c]) w' ∧ Rg w' gm r n f (E ++ [(a, b)]) cnt' ∧ cnt' < cnt ∧ w.grownBy w' (some r) ∧ w'.heap.size = w.heap.size ∧ (Instr.entry (.pointer (some ⟨r, 0, none⟩))).run Tryz.prog w' = .ok (.tuple #[.agg #[.int .i64 a, .int .i64 b], .int .i64 c]) w' := by
  obtain ⟨D, left, a1, a2, a3, a4⟩ := h
  rcases a1.next keyed32 ty with ⟨b1, b2, b3⟩ | ⟨key, v, kl, y, w', cnt', c1, c2, c3, c4, c5, c6, c7, c8, c9, c10⟩
  · exact .inl ⟨b1, b3⟩
  · obtain ⟨⟨a, b⟩, rfl, hin⟩ := key_inv c1
    obtain ⟨c, rfl, -⟩ := plainElem_int_inv Tryz.underlying3 c3
    have h1 := (a4 _ hin kl c1).1 c2
    refine .inr ⟨a, b, c, w', cnt', hin, h1.1, h1.2, c5, ⟨D, _, c6, ?_, fun e he => ?_, fun e he kx hkx => ?_⟩, c7, c8, c9, c10⟩
    · rw [List.nodup_append]
      refine ⟨a2, by simp, fun x hx y hy e => ?_⟩
      simp only [List.mem_singleton] at hy
      subst e
      exact h1.2 (hy ▸ hx)
    · rcases List.mem_append.1 he with he | he
      · exact a3 e he
      · rw [List.mem_singleton.1 he]
        exact ⟨hin, h1.1⟩
    · have hk : (kx.sameKey kl = true) ↔ e = (a, b) := by
        rw [WideAt.sameKey_iff (keyed32.key c1)]
        constructor
        · intro e'
          subst e'
          exact evz_inj (keyed32.inj hkx c1)
        · intro e'
          subst e'
          rw [hkx] at c1
          exact Option.some.inj c1
      have h4 := a4 e he kx hkx
      simp only [Bool.and_eq_true, Bool.not_eq_true', List.mem_append, List.mem_singleton, not_or]
      rw [← Bool.not_eq_true, hk, h4]
      exact ⟨fun h => ⟨h.1.1, h.1.2, h.2⟩, fun h => ⟨⟨h.1, h.2.1⟩, h.2.2⟩⟩
end
end Go.Proofs.YtafmiolehlagkaaGreat

/-
  World: Row.
-/
namespace Go.Proofs.YtafmiolehlagkaaGreat
open Go.RowKit
set_option maxRecDepth 100000
section
variable {w w' : World} {own : Nat → Nat} {gw gp gm gt M M' : Nat} {vk : Value} {ks : List Kind} {gs fr gs' fr' : List Nat} {f f' : Int × Int → Option Nat} {q q' : Nat → Option Nat} {T T' : Nat → Ts}
theorem row_cells {w W : World} {kr : Nat} (h : w.heap[kr]? = some (.cells #[.int .i64 0, .int .i64 0, .slice none 0 0] 87 (0, 0))) (hb : Below w.heap.size w W) : (W.cell? ⟨kr, 0, none⟩ = some (.int .i64 0) ∧ W.cell? ⟨kr, 1, none⟩ = some (.int .i64 0) ∧ W.cell? ⟨kr, 2, none⟩ = some (.slice none 0 0)) ∧ W.frozen? ⟨kr, 0, none⟩ = false ∧ W.frozen? ⟨kr, 1, none⟩ = false ∧ W.frozen? ⟨kr, 2, none⟩ = false := by
  have hx := (hb.block kr (lt_of_block h)).trans h
  refine ⟨⟨?_, ?_, ?_⟩, frozen_of_row W kr 0 _ 87 hx, frozen_of_row W kr 1 _ 87 hx, frozen_of_row W kr 2 _ 87 hx⟩ <;> rw [cell_of_row W kr _ _ 87 (0, 0) hx] <;> rfl
set_option maxHeartbeats 4000000 in
theorem row_stale (h : Wx 0 w own gw vk gp gm gt M ks gs fr f q T) (a b : Int) (hl : livesOf gs fr a b = false) : Calls Tryz.prog 33 #[.pointer (some ⟨gw, 0, none⟩), .agg #[.int .i64 a, .int .i64 b]] w fun e w' => e = .returned (.tuple #[.agg #[.int .i64 0, .int .i64 0, .slice none 0 0], .int .i64 41]) ∧ Below w.heap.size w w' := by
  obtain ⟨w2, hw2⟩ : ∃ X, X = (w.alloc (.cells #[.int .i64 a, .int .i64 b] 29)).alloc (.cells #[.int .i64 0, .int .i64 0, .slice none 0 0] 87) := ⟨_, rfl⟩
  have B2 : Hid (Below w.heap.size w w2) := hw2 ▸ below_on (below_alloc w _) (below_alloc _ _)
  have hx1 : w2.heap[w.heap.size]? = some (.cells #[.int .i64 a, .int .i64 b] 29 (0, 0)) := by
    rw [hw2]
    exact ((below_alloc _ _).block w.heap.size (by simp)).trans (heap_alloc_new w _)
  have hx2 : w2.heap[w.heap.size + 1]? = some (.cells #[.int .i64 0, .int .i64 0, .slice none 0 0] 87 (0, 0)) := by
    have := heap_alloc_new (w.alloc (.cells #[.int .i64 a, .int .i64 b] 29)) (.cells #[.int .i64 0, .int .i64 0, .slice none 0 0] 87)
    rw [hw2]
    simpa using this
  have J1 := hide (wlives_any (h.later B2.out) a b)
  rw [hl] at J1
  clear h hl
  go_enter Tryz.func33, Tryz.ntmps33
  go_wp2_with fail
  rw [← hw2]
  obtain ⟨kx, hkx⟩ : ∃ k, k = w.heap.size := ⟨_, rfl⟩
  obtain ⟨kr, hkr⟩ : ∃ k, k = w.heap.size + 1 := ⟨_, rfl⟩
  have HKR : Hid (w.heap.size ≤ kr) := by unfold Hid; omega
  rw [← hkr] at hx2 ⊢
  rw [← hkx] at hx1 ⊢
  clear hkx hkr hw2
  refine J1.out.mono ?_
  rintro e w3 ⟨rfl, hb3⟩
  have B3 := hide (below_on B2.out hb3)
  obtain ⟨⟨z0, z1, z2⟩, f0, f1, f2⟩ := row_cells hx2 hb3
  have HB7 : Hid (Below w.heap.size w (((w3.setCell ⟨kr, 0, none⟩ (.int .i64 0)).setCell ⟨kr, 1, none⟩ (.int .i64 0)).setCell ⟨kr, 2, none⟩ (.slice none 0 0))) := below_set (below_set (below_set B3.out HKR.out) HKR.out) HKR.out
  clear hb3 hx1 hx2 J1
  go_wp2_with fail
  (try simp only [Exit.inBlock, Exit.then])
  refine bodyPost_ret (v := .tuple #[.agg #[.int .i64 0, .int .i64 0, .slice none 0 0], .int .i64 41]) ?_ rfl ⟨rfl, HB7.out⟩
  rw [results_cell_tmp rfl]
  go_simp
theorem row_end {w w5 W' : World} {B kr n c : Nat} {a5 : Option Addr} {L : List Pt} {R : List (Nat × List Int)} (hg : w5.grownBy W' (some kr)) (ho : w5.ownsRow B 32 2 (.slice a5 L.length c) L.length (pz L)) (hv : Pv B w5 L R) (hb : Below w.heap.size w w5) (hB : w.heap.size ≤ B) (hk : w.heap.size ≤ kr) (hkn : kr < n) (hn : n ≤ B) : (W'.ownsRow w.heap.size 32 2 (.slice a5 L.length c) L.length (pz L) ∧ Pv w.heap.size W' L R) ∧ Below w.heap.size w W' := by
  refine ⟨⟨own_lower (own_kept ho hg (fun j e e2 => by have := (ho.lt j e).1; have := Option.some.inj e2; omega)) hB, ?_⟩, hb.grown hg hb.size (fun j e => by have := Option.some.inj e; omega)⟩
  have h2 := hv.grown hg (fun p hp j e e2 => by
    obtain ⟨m, hm, rfl⟩ := List.getElem_of_mem hp
    have := ((hv.2 m hm (by rw [← hv.1]; exact hm)).2.lt j e).1
    have := Option.some.inj e2
    omega)
  exact ⟨h2.1, fun i h1 h3 => ⟨(h2.2 i h1 h3).1, own_lower (h2.2 i h1 h3).2 hB⟩⟩
set_option maxHeartbeats 8000000 in
theorem row_live (h : Wx 0 w own gw vk gp gm gt M ks gs fr f q T) (a b : Int) (hl : livesOf gs fr a b = true) (hib : InB (a, b)) (hks : ks.length ≤ 12) (s g i : Nat) (hf : f (a, b) = some s) (hq : q s = some g) (hs : s < 8192) (hi : i < (T s).1.length) (hx : (T s).1[i] = (a, b)) (hcol : (T s).2.length = fsum ks s 1) :
    Calls Tryz.prog 33 #[.pointer (some ⟨gw, 0, none⟩), .agg #[.int .i64 a, .int .i64 b]] w fun e w' => ∃ v, e = .returned (.tuple #[.agg #[.int .i64 a, .int .i64 b, v], .int .i64 0]) ∧ (∃ L, w'.ownsRow w.heap.size 32 2 v L.length (pz L) ∧ Pv w.heap.size w' L (partsL ks s 1 (rowOf (T s).2 i))) ∧ Below w.heap.size w w' := by
  obtain ⟨w2, hw2⟩ : ∃ X, X = (w.alloc (.cells #[.int .i64 a, .int .i64 b] 29)).alloc (.cells #[.int .i64 0, .int .i64 0, .slice none 0 0] 87) := ⟨_, rfl⟩
  have B2 : Hid (Below w.heap.size w w2) := hw2 ▸ below_on (below_alloc w _) (below_alloc _ _)
  have hx1 : w2.heap[w.heap.size]? = some (.cells #[.int .i64 a, .int .i64 b] 29 (0, 0)) := by
    rw [hw2]
    exact ((below_alloc _ _).block w.heap.size (by simp)).trans (heap_alloc_new w _)
  have hx2 : w2.heap[w.heap.size + 1]? = some (.cells #[.int .i64 0, .int .i64 0, .slice none 0 0] 87 (0, 0)) := by
    have := heap_alloc_new (w.alloc (.cells #[.int .i64 a, .int .i64 b] 29)) (.cells #[.int .i64 0, .int .i64 0, .slice none 0 0] 87)
    rw [hw2]
    simpa using this
  have J1 := hide (wlives_any (h.later B2.out) a b)
  rw [hl] at J1
  have JP : Hid (∀ W, Below w2.heap.size w2 W → Calls Tryz.prog 78 #[.pointer (some ⟨gw, 0, none⟩), .agg #[.int .i64 a, .int .i64 b]] W fun e w' => ∃ v, e = .returned v ∧ ∃ L, w'.ownsRow W.heap.size 32 2 v L.length (pz L) ∧ Pv W.heap.size w' L (partsL ks s 1 (rowOf (T s).2 i)) ∧ Below W.heap.size W w') := fun W hW => parts_any (h.later (below_on B2.out hW)) a b hib hks s g i hf hq hs hi hx hcol
  generalize partsL ks s 1 (rowOf (T s).2 i) = R at *
  clear h hl hf hq hi hx hcol
  go_enter Tryz.func33, Tryz.ntmps33
  go_wp2_with fail
  rw [← hw2]
  obtain ⟨kx, hkx⟩ : ∃ k, k = w.heap.size := ⟨_, rfl⟩
  obtain ⟨kr, hkr⟩ : ∃ k, k = w.heap.size + 1 := ⟨_, rfl⟩
  have HKR : Hid (w.heap.size ≤ kr) := by unfold Hid; omega
  rw [← hkr] at hx2 ⊢
  rw [← hkx] at hx1 ⊢
  clear hkx hkr hw2
  refine J1.out.mono ?_
  rintro e w3 ⟨rfl, hb3⟩
  have B3 := hide (below_on B2.out hb3)
  obtain ⟨p0, p1⟩ := kx_cells hx1 (below_on hb3 (below_drew w3))
  have J2 := hide (JP.out w3.drew (below_on hb3 (below_drew w3)))
  have X1 := hide hx1
  have X2 := hide hx2
  have HB3 := hide hb3
  clear JP J1 hb3 hx1 hx2
  go_upto_region 3 with fail
  refine wp_region_noPanic ?_
  refine wp_region_late (J := fun i => i != 5) (S := fun W => W.cell? ⟨kx, 0, none⟩ = some (.int .i64 a) ∧ W.cell? ⟨kx, 1, none⟩ = some (.int .i64 b)) (by kernel_rfl) ⟨p0, p1⟩ (fun hHeld => ?_)
  refine' wpAnyJ_take (i := 0) (oi := { dst := some 11, op := Op.load 29 (Operand.tmp 3), type := 29, pos := "world.go:118", after := #[], guard := none }) (v := _) rfl (by kernel_rfl) (by kernel_rfl) (by kernel_rfl) (by kernel_rfl) (fun _ _ _ h => h) (Or.inl ⟨by rfl, ?hyA1⟩) (by assumption) ?reA1
  case hyA1 => (intro W hSw; (try dsimp only at hSw); go_simp; try with_reducible rfl)
  try simp only [Act.put, List.setIfInBounds_toArray, List.set_cons_zero, List.set_cons_succ]
  refine' wpAnyJ_takeW (i := 1) (oi := { dst := some 12, op := Op.move (Operand.tmp 0), type := 37, pos := "world.go:118", after := #[], guard := none }) (v := _) rfl (by kernel_rfl) (by kernel_rfl) (by kernel_rfl) (fun _ _ _ h => h) (Or.inl ⟨by rfl, ?hyA2⟩) ?reA2
  case hyA2 => (intro W hSw; (try dsimp only at hSw); go_simp; try with_reducible rfl)
  try simp only [Act.put, List.setIfInBounds_toArray, List.set_cons_zero, List.set_cons_succ]
  refine' wpAnyJ_take (i := 2) (oi := { dst := some 13, op := Op.load 29 (Operand.tmp 3), type := 29, pos := "world.go:118", after := #[], guard := none }) (v := _) rfl (by kernel_rfl) (by kernel_rfl) (by kernel_rfl) (by kernel_rfl) (fun _ _ _ h => h) (Or.inl ⟨by rfl, ?hyA3⟩) (by assumption) ?reA3
  case hyA3 => (intro W hSw; (try dsimp only at hSw); go_simp; try with_reducible rfl)
  try simp only [Act.put, List.setIfInBounds_toArray, List.set_cons_zero, List.set_cons_succ]
  refine wpAnyJ_ready (rs := [3]) (by kernel_rfl) (by simp) ?_
  refine AllReadyJ.cons (o := { dst := some 14, op := Op.call { callee := Callee.value (Operand.func 78), args := #[Operand.tmp 12, Operand.tmp 13], argTypes := #[37, 29] }, type := 33, pos := "world.go:118", after := #[{ on := 1, ground := Ground.data }, { on := 2, ground := Ground.data }], guard := none }) rfl (fun K hK => ?_) AllReadyJ.nil
  go_simp
  go_at_call 78
  refine J2.out.mono ?_
  rintro e w5 ⟨v5, rfl, L, ho5, hv5, hb5⟩
  have b6 := below_on HB3.out (below_on (below_drew w3) hb5)
  obtain ⟨⟨z0, z1, z2⟩, f0, f1, f2⟩ := row_cells X2.out b6
  obtain ⟨y0, y1⟩ := kx_cells X1.out b6
  obtain ⟨a5, c5, rfl⟩ := own_len ho5
  have HE : Hid (∀ W', w5.grownBy W' (some kr) → (W'.ownsRow w.heap.size 32 2 (.slice a5 L.length c5) L.length (pz L) ∧ Pv w.heap.size W' L R) ∧ Below w.heap.size w W') := fun W' hg => row_end hg ho5 hv5 (below_on B2.out b6) (below_on B2.out HB3.out).size HKR.out (lt_of_block X2.out) HB3.out.size
  clear b6 ho5 hv5 hb5
  go_simp
  refine hK.out _ _ (fun _ _ => ⟨y0, y1⟩) ?_
  clear hK K J2
  try simp only [Act.put, List.setIfInBounds_toArray, List.set_cons_zero, List.set_cons_succ]
  refine' wpAnyJ_takeW (i := 4) (oi := { dst := some 15, op := Op.build 87 #[(0, Operand.tmp 11), (1, Operand.tmp 14)], type := 87, pos := "world.go:118", after := #[{ on := 0, ground := Ground.data }, { on := 3, ground := Ground.data }], guard := none }) (v := _) rfl (by kernel_rfl) (by kernel_rfl) (by kernel_rfl) (fun _ _ _ h => h) (Or.inl ⟨by rfl, ?hyA4⟩) ?reA4
  case hyA4 => (intro W hSw; (try dsimp only at hSw); go_simp; try with_reducible rfl)
  try simp only [Act.put, List.setIfInBounds_toArray, List.set_cons_zero, List.set_cons_succ]
  refine wpAnyJ_ready (rs := [5]) (by kernel_rfl) (by simp) ?_
  refine AllReadyJ.cons (o := { dst := none, op := Op.store 87 (Operand.tmp 4) (Operand.tmp 15), type := 0, pos := "world.go:118", after := #[{ on := 4, ground := Ground.data }, { on := 3, ground := Ground.chain }, { on := 0, ground := Ground.phase }, { on := 1, ground := Ground.phase }, { on := 2, ground := Ground.phase }, { on := 3, ground := Ground.phase }, { on := 4, ground := Ground.phase }], guard := none }) rfl (fun K hK => ?_) AllReadyJ.nil
  go_simp
  refine hK.out _ _ (fun h => absurd h (by decide)) ?_
  clear hK K
  try simp only [Act.put, List.setIfInBounds_toArray, List.set_cons_zero, List.set_cons_succ]
  refine' wpAnyJ_takeW (i := 6) (oi := { dst := some 5, op := Op.assign (Operand.const (Value.int IntKind.i64 0)), type := 61, pos := "world.go:118", after := #[{ on := 5, ground := Ground.chain }, { on := 0, ground := Ground.phase }, { on := 1, ground := Ground.phase }, { on := 2, ground := Ground.phase }, { on := 3, ground := Ground.phase }, { on := 4, ground := Ground.phase }, { on := 5, ground := Ground.phase }], guard := none }) (v := _) rfl (by kernel_rfl) (by kernel_rfl) (by kernel_rfl) (fun _ _ _ h => h) (Or.inl ⟨by rfl, ?hyA5⟩) ?reA5
  case hyA5 => (intro W hSw; (try dsimp only at hSw); go_simp; try with_reducible rfl)
  try simp only [Act.put, List.setIfInBounds_toArray, List.set_cons_zero, List.set_cons_succ]
  refine wpAnyJ_done (by kernel_rfl) ?_ _
  refine NoPanic.normal ?_
  have hg9 : w5.grownBy (((w5.setCell ⟨kr, 0, none⟩ (.int .i64 a)).setCell ⟨kr, 1, none⟩ (.int .i64 b)).setCell ⟨kr, 2, none⟩ (.slice a5 L.length c5)) (some kr) := grown_two (grown_two (grown_set _ _ _ _) (grown_set _ _ _ _)) (grown_set _ _ _ _)
  have HF := hide (HE.out _ hg9)
  clear hg9 HE
  go_wp2_with fail
  (try simp only [Exit.inBlock, Exit.then])
  refine bodyPost_ret (v := .tuple #[.agg #[.int .i64 a, .int .i64 b, .slice a5 L.length c5], .int .i64 0]) ?_ rfl ⟨_, rfl, ⟨L, HF.out.1⟩, HF.out.2⟩
  rw [results_cell_tmp rfl]
  go_simp
end
end Go.Proofs.YtafmiolehlagkaaGreat

/-
  World: rows are put in order by their numbers.
-/
namespace Go.Proofs.YtafmiolehlagkaaGreat
open Go.RowKit Go.Shelf Go.Lib Go.Sort
set_option maxRecDepth 100000
/-- A row's three cells: its entity, where its parts lie. -/
abbrev Rt := Int × Int × Option Addr × Nat × Nat
def encR (p : Rt) : List Value := [.int .i64 p.1, .int .i64 p.2.1, .slice p.2.2.1 p.2.2.2.1 p.2.2.2.2]
def cfR (p r : Rt) : Int := Lib.compareInt p.1 r.1
set_option maxHeartbeats 1000000 in
theorem byIndex_any (p r : Rt) (w : World) : Calls Tryz.prog 83 #[.agg (encR p).toArray, .agg (encR r).toArray] w fun e w' => e = .returned (.int .i64 (cfR p r)) ∧ ∃ q os', w' = grow (w.drewN q) os' := by
  obtain ⟨x, x2, ax, nx, cx⟩ := p
  obtain ⟨y, y2, ay, ny, cy⟩ := r
  unfold encR cfR
  dsimp only
  have J := fun W => cmp_any x y W
  have J := hide J
  generalize Lib.compareInt x y = z at *
  go_enter Tryz.func83, Tryz.ntmps83
  go_wp2_with fail
  refine (J.out _).mono ?_
  rintro e w' ⟨rfl, rfl⟩
  go_wp2_with fail
  go_ret
  exact ⟨rfl, 0, _, by rw [alloc_eq_grow, alloc_eq_grow, grow_grow]; rfl⟩
/-! ### Rows of rows -/
def rz : List Rt → List Value
  | [] => []
  | p :: l => .int .i64 p.1 :: .int .i64 p.2.1 :: .slice p.2.2.1 p.2.2.2.1 p.2.2.2.2 :: rz l
theorem rz_len : ∀ l : List Rt, (rz l).length = l.length * 3
  | [] => rfl
  | p :: t => by simp [rz, rz_len t]; omega
theorem rz_append : ∀ a b : List Rt, rz (a ++ b) = rz a ++ rz b
  | [], _ => rfl
  | h :: t, b => by simp [rz, rz_append t b]
theorem rz_at : ∀ (l : List Rt) (i : Nat) (h : i < l.length), (rz l)[i * 3]? = some (.int .i64 l[i].1) ∧ (rz l)[i * 3 + 1]? = some (.int .i64 l[i].2.1) ∧ (rz l)[i * 3 + 2]? = some (.slice l[i].2.2.1 l[i].2.2.2.1 l[i].2.2.2.2)
  | p :: t, 0, _ => ⟨rfl, rfl, rfl⟩
  | p :: t, i + 1, h => by
    have := rz_at t i (by simpa using h)
    rw [show (i + 1) * 3 = i * 3 + 1 + 1 + 1 by omega]
    simpa [rz] using this
theorem rz_flat (l : List Rt) : (flatK encR 3 l.toArray).toList = rz l := by
  apply List.ext_getElem?
  intro j
  rw [Array.getElem?_toList]
  by_cases hj : j < l.length * 3
  · have h1 : j < (flatK encR 3 l.toArray).size := by simpa using hj
    rw [Array.getElem?_eq_getElem h1, ← getElem!_pos (flatK encR 3 l.toArray) j h1, get_flatK _ _ _ j (by simpa using hj)]
    have hi : j / 3 < l.length := by omega
    have e1 : (l.toArray[j / 3]!) = l[j / 3] := by rw [getElem!_pos _ _ (by simpa using hi)]; simp
    rw [e1]
    obtain ⟨a, b, c⟩ := rz_at l (j / 3) hi
    have hm : j % 3 = 0 ∨ j % 3 = 1 ∨ j % 3 = 2 := by omega
    rcases hm with h | h | h
    · rw [show j / 3 * 3 = j by omega] at a
      rw [h, a]
      rfl
    · rw [show j / 3 * 3 + 1 = j by omega] at b
      rw [h, b]
      rfl
    · rw [show j / 3 * 3 + 2 = j by omega] at c
      rw [h, c]
      rfl
  · rw [Array.getElem?_eq_none (by simpa using hj), List.getElem?_eq_none (by rw [rz_len]; omega)]
theorem row_holds {w : World} {g c : Nat} {l : List Rt} (h : w.ownsRow 0 87 3 (.slice (some ⟨g, 0, none⟩) l.length c) l.length (rz l)) : HoldsK encR 3 w g 0 l.toArray := by
  intro j hj
  have hj2 : j < l.length * 3 := by simpa using hj
  refine ⟨?_, ?_⟩
  · rw [Nat.zero_add, h.cellAt j hj2, ← rz_flat l, Array.getElem?_toList, Array.getElem?_eq_getElem hj, getElem!_pos (flatK encR 3 l.toArray) j hj]
    rfl
  · rw [Nat.zero_add]
    exact h.frozenAt j
theorem row_sorted {w : World} {g c n : Nat} {l l' : List Rt} {os : Array Obj} (h : w.ownsRow 0 87 3 (.slice (some ⟨g, 0, none⟩) l.length c) l.length (rz l)) (hl : l'.length = l.length) :
    (sortWorldK encR 3 w g 0 n l'.toArray os).ownsRow 0 87 3 (.slice (some ⟨g, 0, none⟩) l.length c) l.length (rz l') ∧ w.grownBy (sortWorldK encR 3 w g 0 n l'.toArray os) (some g) := by
  rcases h.2 with ⟨e0, _⟩ | ⟨g', cap', cur, e0, hb, hg, hn, hm, hs, ht⟩
  · cases e0
  · injection e0 with e1 _ e3
    injection e1 with e1
    injection e1 with e1
    subst e1; subst e3
    have hlt : g < w.heap.size := lt_of_block hg
    have hsz : (flatK encR 3 l'.toArray).size = l.length * 3 := by simp [hl]
    refine ⟨⟨by rw [rz_len, hl], .inr ⟨g, c, putCells id 0 (flatK encR 3 l'.toArray) cur, rfl, hb, ?_, hn, hm, by simpa [putCells] using hs, ?_⟩⟩, ⟨rfl, rfl, rfl, ?_, fun k hk hne => ?_⟩⟩
    · unfold sortWorldK
      rw [heap_grow_old _ _ (by simpa [putRowK, putRow, mapBlock, Sort.ahead] using hlt)]
      simp [putRowK, putRow, mapBlock, Sort.ahead, Array.getElem?_modify, hg, onCells]
    · rw [← rz_flat l']
      apply List.ext_getElem?
      intro j
      rw [List.getElem?_take, Array.getElem?_toList, Array.getElem?_toList]
      by_cases hj : j < l.length * 3
      · have hjc : j < cur.size := by rw [hs]; omega
        simp only [if_pos hj, putCells, Array.getElem?_mapIdx, Array.getElem?_eq_getElem hjc, Option.map_some]
        have hF : j < (flatK encR 3 l'.toArray).size := by omega
        rw [if_pos ⟨Nat.zero_le _, by omega⟩, Nat.sub_zero, Array.getElem?_eq_getElem hF, getElem!_pos (flatK encR 3 l'.toArray) j hF]
        rfl
      · rw [if_neg hj, Array.getElem?_eq_none (by omega)]
    · simp [sortWorldK, putRowK, putRow, mapBlock, Sort.ahead]
    · have hne2 : ¬ g = k := fun e => hne (by rw [e])
      unfold sortWorldK
      rw [heap_grow_old _ _ (by simpa [putRowK, putRow, mapBlock, Sort.ahead] using hk)]
      simp [putRowK, putRow, mapBlock, Sort.ahead, Array.getElem?_modify, hne2]
theorem ltR (x y : Rt) : ltOf cfR x y = decide (x.1 < y.1) := by
  unfold ltOf cfR Lib.compareInt
  by_cases h1 : x.1 < y.1
  · simp [h1]
  · by_cases h2 : y.1 < x.1 <;> simp [h1, h2]
theorem swoR : SWO (ltOf cfR) where
  irrefl x := by rw [ltR]; simp
  trans x y z h1 h2 := by rw [ltR] at *; simp at *; omega
  ntrans x y z h1 h2 := by rw [ltR] at *; simp at *; omega
/-! ### Nothing is put in order -/
theorem rins_none (ao : Option Addr) (c : Nat) (fv : Value) (w : World) : Calls Tryz.prog 184 #[.slice ao 0 c, .int .i64 0, .int .i64 0, fv] w fun e w' => e = .returned (.tuple #[]) ∧ w' = w := by
  go_enter Tryz.func184, Tryz.ntmps184
  go_wp2_with fail
  refine wp_loop_rounds 1 ?_
  rw [rounds_succ]
  go_wp2_with fail
  go_end0
  exact ⟨rfl, rfl⟩
set_option maxHeartbeats 2000000 in
theorem rpdq_none (ao : Option Addr) (c : Nat) (fv : Value) (w : World) (lim : Int) : Calls Tryz.prog 153 #[.slice ao 0 c, .int .i64 0, .int .i64 0, .int .i64 lim, fv] w fun e w' => e = .returned (.tuple #[]) ∧ w' = w := by
  have J := hide (rins_none ao c fv w)
  go_enter Tryz.func153, Tryz.ntmps153
  go_wp2_with fail
  refine wp_loop_rounds 1 ?_
  rw [rounds_succ]
  go_wp2_with fail
  refine J.out.mono ?_
  rintro e w' ⟨rfl, rfl⟩
  go_wp2_with fail
  (try simp only [Exit.inBlock, Exit.then]); refine bodyPost_ret (results_none rfl _ _ _) rfl ?_
  exact ⟨rfl, rfl⟩
set_option maxHeartbeats 2000000 in
theorem rsort_none (ao : Option Addr) (c : Nat) (fv : Value) (w : World) : Calls Tryz.prog 82 #[.slice ao 0 c, fv] w fun e w' => e = .returned (.tuple #[]) ∧ w' = w := by
  have JL := hide (len_small 0 w (by omega))
  have JP : Hid (∀ lim : Int, Calls Tryz.prog 153 #[.slice ao 0 c, .int .i64 0, .int .i64 0, .int .i64 lim, fv] w fun e w' => e = .returned (.tuple #[]) ∧ w' = w) := fun lim => rpdq_none ao c fv w lim
  go_enter Tryz.func82, Tryz.ntmps82
  go_wp2_with fail
  refine JL.out.mono ?_
  rintro e w' ⟨⟨l, rfl⟩, rfl⟩
  go_wp2_with fail
  refine (JP.out _).mono ?_
  rintro e w' ⟨rfl, rfl⟩
  go_wp2_with fail
  go_end0
  exact ⟨rfl, rfl⟩
/-- slices.SortFunc of rows, by their numbers. -/
theorem rsort_any {w : World} {v : Value} {l : List Rt} (h : w.ownsRow 0 87 3 v l.length (rz l)) (hn : l.length ≤ 1000000) : Calls Tryz.prog 82 #[v, .func (.func 83) #[] #[]] w fun e w' => e = .returned (.tuple #[]) ∧ ∃ l', l'.Perm l ∧ l'.Pairwise (fun x y => x.1 ≤ y.1) ∧ w'.ownsRow 0 87 3 v l.length (rz l') ∧ w.grownBy w' v.ownBlock := by
  by_cases hv : v = .slice none 0 0
  · subst hv
    have hl : l.length = 0 := by
      rcases h.2 with ⟨_, h0⟩ | ⟨g, c, cur, e, _⟩
      · exact h0
      · cases e
    obtain rfl := List.eq_nil_of_length_eq_zero hl
    refine (rsort_none none 0 _ w).mono ?_
    rintro e w' ⟨rfl, rfl⟩
    exact ⟨rfl, [], List.Perm.refl _, List.Pairwise.nil, h, grown_later (Below.refl _ _)⟩
  · obtain ⟨g, c, rfl⟩ : ∃ g c, v = .slice (some ⟨g, 0, none⟩) l.length c := by
      rcases h.2 with ⟨e, _⟩ | ⟨g, c, cur, e, _⟩
      · exact absurd e hv
      · exact ⟨g, c, e⟩
    have hg := (h.lt g rfl).2
    have eg : ∀ args w, (callFunc 83 args).run Tryz.prog w = .ok (.enter 83 args) w := enters_of Tryz.func83 (by kernel_rfl) rfl
    have hcon := AnyQ.slices_SortFunc laidR 3 (fun w => by kernel_rfl) (fun w => by kernel_rfl) encR (fun _ => rfl) (fun x v hv => by simp [encR] at hv; rcases hv with rfl | rfl | rfl <;> rfl) cfR swoR 83 #[] g 0 c l.toArray w eg (fun _ _ _ _ x y => byIndex_any x y _) (row_holds h) hg (by simp; omega)
    change Calls Tryz.prog 82 _ _ _ at hcon
    simp only [List.size_toArray] at hcon
    refine hcon.mono ?_
    rintro e w' ⟨rfl, d', n, os, ⟨hp1, -, hp3⟩, hs, rfl⟩
    have hsz : d'.toList.length = l.length := by simpa using hp1
    have hperm : d'.toList.Perm l := by
      have e1 : d'.extract 0 l.length = d' := by rw [← hsz]; simp
      rw [e1] at hp3
      simpa using hp3
    obtain ⟨k1, k2⟩ := row_sorted (n := n) (os := os) (l' := d'.toList) h hsz
    refine ⟨rfl, d'.toList, hperm, ?_, k1, k2⟩
    rw [List.pairwise_iff_getElem]
    intro i j hi hj hij
    have := hs i j (Nat.zero_le _) hij (by omega)
    rw [ltR, decide_eq_false_iff_not, getElem!_pos d' i (by simpa using hi), getElem!_pos d' j (by simpa using hj)] at this
    simp only [Array.getElem_toList]
    omega
end Go.Proofs.YtafmiolehlagkaaGreat
