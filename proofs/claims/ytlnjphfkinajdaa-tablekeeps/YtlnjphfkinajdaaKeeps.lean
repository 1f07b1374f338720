/-
  TableKeeps' walk.
-/
import Derived.Test.YtlnjphfkinajdaaKp1
namespace Go.Proofs.Ytlnjphfkinajdaa
open Go.RowKit
theorem tdiv40 {x : Int} (h : -9223372036854775808 ≤ x ∧ x ≤ 9223372036854775807) : -9223372036854775808 ≤ x.tdiv 40 ∧ x.tdiv 40 ≤ 9223372036854775807 := by
  by_cases hx : 0 ≤ x
  · rw [Int.tdiv_eq_ediv_of_nonneg hx]
    omega
  · have e : x.tdiv 40 = -((-x).tdiv 40) := by rw [Int.neg_tdiv, Int.neg_neg]
    rw [e, Int.tdiv_eq_ediv_of_nonneg (by omega)]
    omega
theorem own_iz {W : World} {B g : Nat} {l : List Int} {m : Nat} (hm : l.length = m) (h : W.ownsRow B 2 1 (.slice (some ⟨g, 0, none⟩) m m) m (zc l)) : Iz W (.slice (some ⟨g, 0, none⟩) m m) l := by
  subst hm
  refine ⟨_, _, rfl, Nat.le_refl _, ?_, fun j hj => ⟨g, 0, rfl, ?_⟩⟩
  · rcases h.2 with ⟨e, -⟩ | ⟨g', cap, cur, e, -, -, -, h2, -⟩
    · cases e
    · simp only [Value.slice.injEq] at e
      obtain ⟨-, -, rfl⟩ := e
      exact h2
  · rw [Nat.zero_add]
    exact own_num h j hj
def Kb (wi : List Int) : Prop := ∀ q, 0 ≤ wi.getD q 0 ∧ wi.getD q 0 ≤ 40000
theorem Kb.start : Kb (List.replicate 40 0) := fun q => by
  rw [List.getD_eq_getElem?_getD, List.getElem?_replicate]
  split <;> simp
theorem Kb.set {wi : List Int} (h : Kb wi) {k : Nat} (hk : k < wi.length) {x : Int} (h0 : 0 ≤ x) (h1 : x ≤ 40000) : Kb (wi.set k x) := fun q => by
  rw [getD_setI hk]
  split
  · exact ⟨h0, h1⟩
  · exact h q
theorem cell_ne {W : World} {a b i j : Nat} {u v : Value} (h : a ≠ b) (hc : W.cell? ⟨b, j, none⟩ = some v) : (W.setCell ⟨a, i, none⟩ u).cell? ⟨b, j, none⟩ = some v := by
  rw [World.cell?_setCell_far _ _ _ _ (by exact h)]
  exact hc
theorem kv_put {w W : World} {g ka kw kx nc n : Nat} {N : Nat → Prop} {th : List Bool} {wi : List Int} {rows : List (Int × Int)} {cols : List (List Int)} {k : Nat} (x : Int) (b : Bool) (o : Obj) (ht : Tf w.heap.size N W g n rows cols) (hbl : Bl W ka th) (hnl : Nl W kw wi) (hbw : Below w.heap.size w W) (hkr : Kr nc (th.set k b) (wi.set k x) rows cols) (hN1 : N ka) (hN2 : N kw) (hN3 : N kx) (hne : ka ≠ kw) (hl : w.heap.size ≤ ka ∧ w.heap.size ≤ kw) (hx1 : kx ≠ ka) (hx2 : kx ≠ kw) (hbx : W.heap[kx]? = some o) :
    Kv w (fun q => q = ka ∨ q = kw ∨ q = kx) ((W.setCell ⟨kw, k, none⟩ (.int .i64 x)).setCell ⟨ka, k, none⟩ (.bool b)) g ka kw nc n (th.set k b) (wi.set k x) rows cols ∧ ((W.setCell ⟨kw, k, none⟩ (.int .i64 x)).setCell ⟨ka, k, none⟩ (.bool b)).heap[kx]? = some o := by
  have hm : Mv W ((W.setCell ⟨kw, k, none⟩ (.int .i64 x)).setCell ⟨ka, k, none⟩ (.bool b)) (fun q => q = kw ∨ q = ka) := Mv.set (S := fun q => q = kw ∨ q = ka) (Mv.set (S := fun q => q = kw ∨ q = ka) (Mv.refl _ _) (.inl rfl) _ _) (.inr rfl) _ _
  have t2 := (ht.write hN2 (grown_set W kw k (.int .i64 x))).write hN1 (grown_set _ ka k (.bool b))
  have hlt : ∀ q, (q = ka ∨ q = kw ∨ q = kx) → N q := fun q e => by rcases e with rfl | rfl | rfl <;> assumption
  have hlt2 : ∀ q, (q = ka ∨ q = kw ∨ q = kx) → q < ((W.setCell ⟨kw, k, none⟩ (.int .i64 x)).setCell ⟨ka, k, none⟩ (.bool b)).heap.size := by
    obtain ⟨S, a1, a2, a3, a4⟩ := t2
    exact fun q e => a3 q (hlt q e)
  have hn1 := (Nl.set hnl k x)
  have hb1 : Bl (W.setCell ⟨kw, k, none⟩ (.int .i64 x)) ka th := by
    have hm1 : Mv W (W.setCell ⟨kw, k, none⟩ (.int .i64 x)) (fun q => q = kw) := Mv.set (S := fun q => q = kw) (Mv.refl _ _) rfl _ _
    exact hm1.at hbl (fun e => hne e)
  have hn2 : Nl ((W.setCell ⟨kw, k, none⟩ (.int .i64 x)).setCell ⟨ka, k, none⟩ (.bool b)) kw (wi.set k x) := by
    have hm1 : Mv (W.setCell ⟨kw, k, none⟩ (.int .i64 x)) ((W.setCell ⟨kw, k, none⟩ (.int .i64 x)).setCell ⟨ka, k, none⟩ (.bool b)) (fun q => q = ka) := Mv.set (S := fun q => q = ka) (Mv.refl _ _) rfl _ _
    exact hm1.at hn1 (fun e => hne e.symm)
  refine ⟨⟨t2.fence (Below.refl _ _) (fun q e => ⟨.inl (hlt q e), hlt2 q e⟩), hb1.set k b, hn2, hkr, hbw.trans (hm.below hbw.size (fun q e => by rcases e with e | e <;> omega)), .inl rfl, .inr (.inl rfl), hne, hl⟩, hm.at hbx (fun e => by rcases e with e | e; exact hx2 e; exact hx1 e)⟩
theorem kv_put2 {w W : World} {g ka kw kx nc n : Nat} {N : Nat → Prop} {th : List Bool} {wi : List Int} {rows : List (Int × Int)} {cols : List (List Int)} {k : Nat} (b : Bool) (o : Obj) (ht : Tf w.heap.size N W g n rows cols) (hbl : Bl W ka th) (hnl : Nl W kw wi) (hbw : Below w.heap.size w W) (hkr : Kr nc (th.set k b) wi rows cols) (hN1 : N ka) (hN2 : N kw) (hN3 : N kx) (hne : ka ≠ kw) (hl : w.heap.size ≤ ka ∧ w.heap.size ≤ kw) (hx1 : kx ≠ ka) (hbx : W.heap[kx]? = some o) :
    Kv w (fun q => q = ka ∨ q = kw ∨ q = kx) (W.setCell ⟨ka, k, none⟩ (.bool b)) g ka kw nc n (th.set k b) wi rows cols ∧ (W.setCell ⟨ka, k, none⟩ (.bool b)).heap[kx]? = some o := by
  have hm : Mv W (W.setCell ⟨ka, k, none⟩ (.bool b)) (fun q => q = ka) := Mv.set (S := fun q => q = ka) (Mv.refl _ _) rfl _ _
  have t2 := ht.write hN1 (grown_set _ ka k (.bool b))
  have hlt : ∀ q, (q = ka ∨ q = kw ∨ q = kx) → N q := fun q e => by rcases e with rfl | rfl | rfl <;> assumption
  have hlt2 : ∀ q, (q = ka ∨ q = kw ∨ q = kx) → q < (W.setCell ⟨ka, k, none⟩ (.bool b)).heap.size := by
    obtain ⟨S, a1, a2, a3, a4⟩ := t2
    exact fun q e => a3 q (hlt q e)
  have hn2 : Nl (W.setCell ⟨ka, k, none⟩ (.bool b)) kw wi := hm.at hnl (fun e => hne e.symm)
  refine ⟨⟨t2.fence (Below.refl _ _) (fun q e => ⟨.inl (hlt q e), hlt2 q e⟩), hbl.set k b, hn2, hkr, hbw.trans (hm.below hbw.size (fun q e => by omega)), .inl rfl, .inr (.inl rfl), hne, hl⟩, hm.at hbx (fun e => hx1 e)⟩
set_option maxHeartbeats 40000000 in
set_option maxRecDepth 1000000 in
theorem keeps_walk (columns : Int) (va : Value) (A : List Int) (w : World) (ha : Iz w va A) (hA : ∀ x ∈ A, -9223372036854775808 ≤ x ∧ x ≤ 9223372036854775807) (h0 : -9223372036854775808 ≤ columns) (h1 : columns ≤ 9223372036854775807) :
    Calls Try.prog 4 #[.int .i64 columns, va] w fun e w' => e = .returned (.bool true) ∧ Below w.heap.size w w' := by
  obtain ⟨av, cv, rfl, ha1, ha2, -⟩ := id ha
  unfold maxLen at ha2
  have HA := hide ha
  have HAB := hide hA
  have JS := hide (shown_any w)
  have JP : Hid (∀ W : World, Calls Try.prog 9 #[.int .i64 columns, .int .i64 49] W fun e w' => e = .returned (.int .i64 (pk columns 49 : Int)) ∧ w' = W) := fun W => pick_any columns 49 W h0 h1 (by omega) (by omega)
  have hnc : pk columns 49 < 49 := pk_lt columns (by omega)
  generalize pk columns 49 = nc at *
  clear ha hA h0 h1
  obtain ⟨i2, hi2, hz0, hz1, hz2⟩ := info_parts info2
  go_enter Try.func4, Try.ntmps4
  go_wp2_with fail
  refine JS.out.mono ?_
  rintro e w0 ⟨rfl, B0⟩
  go_wp2_with fail
  refine (JP.out w0).mono ?_
  rintro e w0' ⟨rfl, rfl⟩
  obtain ⟨w0, rfl⟩ : ∃ X, X = w0' := ⟨_, rfl⟩
  have JN := hide (tf_new nc w0 (by omega))
  clear JS JP
  go_wp2_with fail
  refine JN.out.mono ?_
  rintro e w1 ⟨g, rfl, ht1, hb1⟩
  have HT1 := hide ht1
  have HB1 : Hid (Below w.heap.size w w1) := below_on B0 hb1
  have HS01 : Hid (w.heap.size ≤ w0.heap.size) := B0.size
  clear JN ht1 hb1
  go_upto_block 0 with fail
  show Code.wp Try.prog _ _ _ ((w1.alloc (.cells ((List.replicate 40 false).map Value.bool).toArray 42)).alloc (.cells (zc (List.replicate 40 0)).toArray 43))
  obtain ⟨w2, hw2⟩ : ∃ X, X = (w1.alloc (.cells ((List.replicate 40 false).map Value.bool).toArray 42)).alloc (.cells (zc (List.replicate 40 0)).toArray 43) := ⟨_, rfl⟩
  have B2 : Below w1.heap.size w1 w2 := hw2 ▸ below_on (below_alloc w1 _) (below_alloc _ _)
  have hs2 : w2.heap.size = w1.heap.size + 1 + 1 := by rw [hw2]; simp
  have hka : w2.heap[w1.heap.size]? = some (.cells ((List.replicate 40 false).map Value.bool).toArray 42 (0, 0)) := by
    rw [hw2]
    exact (heap_alloc_old _ _ (by simp)).trans (heap_alloc_new w1 _)
  have hkw : w2.heap[w1.heap.size + 1]? = some (.cells (zc (List.replicate 40 0)).toArray 43 (0, 0)) := by
    have := heap_alloc_new (w1.alloc (.cells ((List.replicate 40 false).map Value.bool).toArray 42)) (.cells (zc (List.replicate 40 0)).toArray 43)
    rw [← hw2] at this
    simpa using this
  rw [← hw2]
  obtain ⟨ka, hka'⟩ : ∃ k, k = w1.heap.size := ⟨_, rfl⟩
  obtain ⟨kw, hkw'⟩ : ∃ k, k = w1.heap.size + 1 := ⟨_, rfl⟩
  rw [← hka'] at hka
  rw [← hkw'] at hkw
  have HK0 : Hid (Kv w (fun k => k = ka ∨ k = kw) w2 g ka kw nc 0 (List.replicate 40 false) (List.replicate 40 0) [] (List.replicate nc [])) := by
    obtain ⟨S, t1, t2, t3, t4⟩ := HT1.out
    have hh1 := HB1.out.size
    have hh0 := HS01.out
    refine ⟨⟨S, t1.later B2, fun k e => ⟨by have := (t2 k e).1; omega, by have := (t2 k e).2.1; omega, fun e' => by have := (t2 k e).2.1; omega⟩, fun k e => by omega, by omega⟩, hka, hkw, Kr.start nc, below_on HB1.out B2, .inl rfl, .inr rfl, by omega, by omega, by omega⟩
  rw [← hkw', ← hka']
  clear hw2 hka hkw hka' hkw' hs2 HT1 B2 HB1 HS01 B0
  go_cut [11] (fun v11 W => ∃ n th wi rows cols, v11 = .int .i64 (rows.length : Int) ∧ Hid (Kv w (fun k => k = ka ∨ k = kw) W g ka kw nc n th wi rows cols) ∧ Hid (Kb wi))
  case first =>
    go_wp2_with fail
    go_loopw [11, 12] (fun v11 v12 W => ∃ (i n : Nat) (th : List Bool) (wi : List Int) (rows : List (Int × Int)) (cols : List (List Int)), i ≤ 400 ∧ i ≤ A.length ∧ v12 = .int .i64 (i : Int) ∧ v11 = .int .i64 (rows.length : Int) ∧ n ≤ i ∧ Hid (Kv w (fun k => k = ka ∨ k = kw) W g ka kw nc n th wi rows cols) ∧ Hid (Kb wi)) (fun _ v12 _ => A.length - (intOf v12).toNat)
    case atStart => exact ⟨0, 0, _, _, [], _, by omega, by omega, rfl, rfl, by omega, HK0, Kb.start⟩
    case round =>
      obtain ⟨i, n, th, wi, rows, cols, hi4, hiA, rfl, rfl, hni, HK, HKB⟩ := hrel
      clear HK0
      have hfew : rows.length ≤ 40 := by
        obtain ⟨S, f, -, -, -, h, -⟩ := HK.out.facts
        exact h
      have twc : IntKind.i64.wrap ((rows.length : Int) + 1) = (rows.length : Int) + 1 := by rw [IntKind.wrap_i64]; omega
      by_cases hlt : i < A.length
      · have t1 : (i : Int) < (A.length : Int) := by omega
        by_cases h4 : i < 400
        · have t2 : (i : Int) < 400 := by omega
          obtain ⟨x, hx⟩ : ∃ x, x = A[i] := ⟨_, rfl⟩
          have hxb : -9223372036854775808 ≤ x ∧ x ≤ 9223372036854775807 := hx ▸ HAB.out _ (List.getElem_mem hlt)
          have HCA : Hid (∀ W, Below w.heap.size w W → ∃ ga oa, av = some ⟨ga, oa, none⟩ ∧ W.cell? ⟨ga, oa + i, none⟩ = some (.int .i64 x)) := fun W hb => by
            obtain ⟨av', cv', ev', -, -, h3⟩ := HA.out
            simp only [Value.slice.injEq] at ev'
            obtain ⟨rfl, -, rfl⟩ := ev'
            obtain ⟨ga, oa, e, hc⟩ := h3 i hlt
            rw [hx]
            exact ⟨ga, oa, e, (hb.cell (p := ⟨ga, oa + i, none⟩) (World.block_lt_of_cell? w _ hc)).trans hc⟩
          clear hx
          obtain ⟨ga, oa, rfl, ca⟩ := HCA.out wr HK.out.2.2.2.2.1
          have JP : Hid (∀ W : World, Calls Try.prog 9 #[.int .i64 x, .int .i64 40] W fun e w' => e = .returned (.int .i64 (pk x 40 : Int)) ∧ w' = W) := fun W => pick_any x 40 W hxb.1 hxb.2 (by omega) (by omega)
          have hk : pk x 40 < 40 := pk_lt x (by omega)
          generalize pk x 40 = k at *
          go_wp2_with fail
          refine (JP.out wr).mono ?_
          rintro e wr' ⟨rfl, rfl⟩
          obtain ⟨wr, rfl⟩ : ∃ X, X = wr' := ⟨_, rfl⟩
          clear JP ca
          go_upto_region 14 with fail
          obtain ⟨w3, hw3⟩ : ∃ X, X = wr.alloc (.cells #[.int .i64 (k : Int), .int .i64 5] 32) := ⟨_, rfl⟩
          have B3 : Below wr.heap.size wr w3 := hw3 ▸ below_alloc wr _
          have hs3 : w3.heap.size = wr.heap.size + 1 := by rw [hw3]; simp
          have hbx : w3.heap[wr.heap.size]? = some (.cells #[.int .i64 (k : Int), .int .i64 5] 32 (0, 0)) := hw3 ▸ heap_alloc_new wr _
          rw [← hw3]
          obtain ⟨kx, hkx⟩ : ∃ k, k = wr.heap.size := ⟨_, rfl⟩
          rw [← hkx] at hbx ⊢
          have HK3 : Hid (Kv w (fun k => k = ka ∨ k = kw ∨ k = kx) w3 g ka kw nc n th wi rows cols) := HK.out.fence B3 (fun q e => by
            rcases e with e | e | e
            · exact ⟨.inl (.inl e), by have := HK.out.lt q (.inl e); omega⟩
            · exact ⟨.inl (.inr e), by have := HK.out.lt q (.inr e); omega⟩
            · exact ⟨.inr (by omega), by omega⟩) (.inl rfl) (.inr (.inl rfl))
          have HBX := hide hbx
          have HKX : Hid (wr.heap.size = kx) := hkx.symm
          clear hw3 hs3 hkx B3 hbx
          have BX : Hid (∀ W : World, W.heap[kx]? = some (.cells #[.int .i64 (k : Int), .int .i64 5] 32 (0, 0)) → W.cell? ⟨kx, 0, none⟩ = some (.int .i64 (k : Int)) ∧ W.cell? ⟨kx, 1, none⟩ = some (.int .i64 5)) := fun W h => ⟨by rw [cell_of_row W kx _ _ 32 (0, 0) h]; rfl, by rw [cell_of_row W kx _ _ 32 (0, 0) h]; rfl⟩
          obtain ⟨p0, p1⟩ := BX.out w3 HBX.out
          have JF := hide (HK3.out.find hk 5 (by omega))
          go_wp2_with fail
          refine JF.out.mono ?_
          rintro e w4 ⟨r, rfl, hfnd, hb4⟩
          have HK4 := hide (HK3.out.later hb4)
          have hbx4 : w4.heap[kx]? = some (.cells #[.int .i64 (k : Int), .int .i64 5] 32 (0, 0)) := (hb4.block kx (lt_of_block HBX.out)).trans HBX.out
          have HBX4 := hide hbx4
          have hge := HK4.out.2.2.2.1.ge hk hfnd
          have HFN := hide hfnd
          obtain ⟨bb, hbb⟩ : ∃ b, b = th.getD k false := ⟨_, rfl⟩
          have cb := HK4.out.2.1.cell k (by rw [HK4.out.2.2.2.1.1]; exact hk)
          rw [← hbb] at hge cb
          have HBB := hide hbb
          have tk : (k : Int) < 40 := by omega
          have hge2 : decide (r ≥ 0) = bb := hge
          clear hbb hfnd hb4 hbx4 JF p0 p1
          go_upto_block 2 with fail
          clear cb
          go_cut [11] (fun v11 W => ∃ (n' : Nat) (th' : List Bool) (wi' : List Int) (rows' : List (Int × Int)) (cols' : List (List Int)), v11 = .int .i64 (rows'.length : Int) ∧ n' ≤ n + 1 ∧ Hid (Kv w (fun k => k = ka ∨ k = kw ∨ k = kx) W g ka kw nc n' th' wi' rows' cols') ∧ Hid (W.heap[kx]? = some (.cells #[.int .i64 (k : Int), .int .i64 5] 32 (0, 0))) ∧ Hid (Kb wi'))
          case first =>
            have cb := HK4.out.2.1.cell k (by rw [HK4.out.2.2.2.1.1]; exact hk)
            rw [← HBB.out] at cb
            obtain ⟨p0, p1⟩ := BX.out w4 HBX4.out
            cases bb with
            | false =>
              have hnot : ((k : Int), (5 : Int)) ∉ rows := by
                rcases HFN.out with ⟨-, h⟩ | ⟨q, hq, rfl, -⟩
                · exact h
                · simp at hge
              have HNOT := hide hnot
              have tw1 : IntKind.i64.wrap ((i : Int) * 100) = (i : Int) * 100 := by rw [IntKind.wrap_i64]; omega
              have tnc : (0 : Int) ≤ (nc : Int) := by omega
              clear hnot hge hge2
              go_wp2_with (at_make; refine wpList_make_full _ rfl _ _ 27 rfl w4.heap.size 2 i2 (.int .i64 0) 1 Try.underlying27 hi2 hz0 hz1 .i64 .i64 _ _ nc rfl rfl ?c1 ?c2 ?c3 ?c4 ?c5 ?_)
              case c1 => omega
              case c2 => omega
              case c3 => rw [hz2]; omega
              case c4 => unfold maxLen; omega
              case c5 => omega
              intro w5 hown hgrow
              rw [toList_madeCells_one] at hown
              have hb5 : Below w4.heap.size w4 w5 := (Below.refl _ _).grown hgrow (Nat.le_refl _) (by intro k hk; cases hk)
              obtain ⟨kv, hkv⟩ : ∃ k, k = w4.heap.size := ⟨_, rfl⟩
              have HO5 : Hid (w5.ownsRow w4.heap.size 2 1 (.slice (some ⟨kv, 0, none⟩) nc nc) nc (zc ((nums nc ((i : Int) * 100)).take 0 ++ List.replicate (nc - 0) 0))) := by
                have e : zc ((nums nc ((i : Int) * 100)).take 0 ++ List.replicate (nc - 0) 0) = List.replicate nc (.int .i64 0) := by simp [zc]
                rw [e, hkv]
                exact hown
              have HB5 := hide hb5
              have HKV := hide hkv
              rw [← hkv]
              clear hown hgrow hb5 hkv cb
              go_wp2_with fail
              go_loopw [17] (fun v17 W => ∃ j : Nat, j ≤ nc ∧ v17 = .int .i64 (j : Int) ∧ Hid (W.ownsRow w4.heap.size 2 1 (.slice (some ⟨kv, 0, none⟩) nc nc) nc (zc ((nums nc ((i : Int) * 100)).take j ++ List.replicate (nc - j) 0))) ∧ Hid (Below w4.heap.size w4 W)) (fun v17 _ => nc - (intOf v17).toNat)
              case atStart => exact ⟨0, Nat.zero_le _, rfl, HO5, HB5⟩
              case round =>
                obtain ⟨j, hjl, rfl, HR, HB⟩ := hrel
                by_cases hj : j < nc
                · have t5 : (j : Int) < (nc : Int) := by omega
                  have eo : wr.cell? ⟨kv, j, none⟩ = some (.int .i64 0) := by
                    rw [HR.out.cellAt j (by omega)]
                    exact fill_at _ _ _ (nums_len _ _) hj
                  have ef := HR.out.frozenAt j
                  have hx5 : (nums nc ((i : Int) * 100))[j]? = some ((i : Int) * 100 + (j : Int)) := by simp [nums, hj]
                  have hst := (HR.out.stored j (.int .i64 ((i : Int) * 100 + (j : Int)))).1
                  rw [zc_set, fill_set _ _ _ _ (nums_len _ _) hj hx5] at hst
                  have HST := hide hst
                  have tw2 : IntKind.i64.wrap ((i : Int) * 100 + (j : Int)) = (i : Int) * 100 + (j : Int) := by rw [IntKind.wrap_i64]; omega
                  clear hst hx5
                  go_wp2_with fail
                  go_roundw
                  case rel => exact ⟨j + 1, by omega, by go_num, HST, (HB.out.trans (Mv.below (S := fun q => q = kv) (Mv.set (S := fun q => q = kv) (Mv.refl _ _) rfl _ _) HB.out.size (fun q e => by have := HKV.out; omega)))⟩
                  case measure => simp [intOf]; omega
                · obtain rfl : j = nc := by omega
                  have t5 : ¬ (j : Int) < (j : Int) := by omega
                  have hfin : (nums j ((i : Int) * 100)).take j ++ List.replicate (j - j) 0 = nums j ((i : Int) * 100) := by
                    rw [List.take_of_length_le (by rw [nums_len]; exact Nat.le_refl _)]
                    simp
                  have hr6 := HR.out
                  rw [hfin] at hr6
                  have hiz := own_iz (nums_len j ((i : Int) * 100)) hr6
                  have HK6 : Hid (Kv w (fun q => q = ka ∨ q = kw ∨ q = kx ∨ q = kv) wr g ka kw j n th wi rows cols) := HK4.out.fence HB.out (fun q e => by
                    have hsz := HB.out.size
                    rcases e with e | e | e | e
                    · exact ⟨.inl (.inl e), by have := HK4.out.lt q (.inl e); omega⟩
                    · exact ⟨.inl (.inr (.inl e)), by have := HK4.out.lt q (.inr (.inl e)); omega⟩
                    · exact ⟨.inl (.inr (.inr e)), by have := HK4.out.lt q (.inr (.inr e)); omega⟩
                    · exact ⟨.inr (by have := HKV.out; omega), by rw [e]; exact (hr6.lt kv rfl).2⟩) (.inl rfl) (.inr (.inl rfl))
                  have JA := hide (HK6.out.add hk HNOT.out ((i : Int) * 100) _ hiz (fun q e => by
                    simp only [Value.ownBlock, Option.some.injEq] at e
                    exact .inr (.inr (.inr e.symm))) (by omega))
                  have hbx6 : wr.heap[kx]? = some (.cells #[.int .i64 (k : Int), .int .i64 5] 32 (0, 0)) := (HB.out.block kx (lt_of_block HBX4.out)).trans HBX4.out
                  obtain ⟨o0, o1⟩ := BX.out wr hbx6
                  have HBX6 := hide hbx6
                  clear hfin hr6 hiz hbx6 HO5 HB5 p0 p1
                  go_wp2_with fail
                  refine JA.out.mono ?_
                  rintro e w7 ⟨rfl, ⟨u1, u2, u3, u4, u5⟩, u6⟩
                  have hth := HK4.out.2.2.2.1.1
                  have hwi := HK4.out.2.2.2.1.2.1
                  have m1 := u3.cell k (by omega)
                  have m2 := u3.frozen k
                  have hne := HK4.out.2.2.2.2.2.2.2.1
                  have m3 : ∀ u, (w7.setCell ⟨kw, k, none⟩ u).cell? ⟨ka, k, none⟩ = some (.bool (th.getD k false)) := fun u => cell_ne (fun e => hne e.symm) (u2.cell k (by omega))
                  have m4 : ∀ u, (w7.setCell ⟨kw, k, none⟩ u).frozen? ⟨ka, k, none⟩ = false := fun u => by
                    have hm1 : Mv w7 (w7.setCell ⟨kw, k, none⟩ u) (fun q => q = kw) := Mv.set (S := fun q => q = kw) (Mv.refl _ _) rfl _ _
                    exact frozen_of_row _ ka k _ 42 (hm1.at u2 hne)
                  have hxx : kx ≠ ka ∧ kx ≠ kw := by
                    have h1 := HK.out.lt ka (.inl rfl)
                    have h2 := HK.out.lt kw (.inr rfl)
                    have h3 := HKX.out
                    omega
                  have FIN := hide (kv_put (k := k) ((i : Int) * 100) true _ u1 u2 u3 u4 u6 (.inl rfl) (.inr (.inl rfl)) (.inr (.inr (.inl rfl))) hne HK4.out.2.2.2.2.2.2.2.2 hxx.1 hxx.2 ((u5 kx (.inr (.inr (.inl rfl)))).trans HBX6.out))
                  clear u1 u2 u3 u4 u5 u6 JA o0 o1 hxx
                  go_wp2_with fail
                  go_meet
                  exact ⟨n + 1, _, _, rows ++ [((k : Int), (5 : Int))], _, val_int (by simp), by omega, FIN.out.1, FIN.out.2, HKB.out.set (by omega) (by omega) (by omega)⟩
            | true =>
              obtain ⟨at', hat, hrr, he⟩ : ∃ (i : Nat) (hi : i < rows.length), r = (i : Int) ∧ rows[i] = ((k : Int), (5 : Int)) := by
                rcases HFN.out with ⟨rfl, -⟩ | h
                · simp at hge
                · exact h
              subst hrr
              have HE := hide he
              obtain ⟨ga', oa', ee, ca⟩ := HCA.out w4 HK4.out.2.2.2.2.1
              simp only [Option.some.injEq, Addr.mk.injEq, and_true] at ee
              obtain ⟨rfl, rfl⟩ := ee
              have JP3 : Hid (∀ W : World, Calls Try.prog 9 #[.int .i64 (x.tdiv 40), .int .i64 3] W fun e w' => e = .returned (.int .i64 (pk (x.tdiv 40) 3 : Int)) ∧ w' = W) := fun W => pick_any (x.tdiv 40) 3 W (tdiv40 hxb).1 (tdiv40 hxb).2 (by omega) (by omega)
              generalize pk (x.tdiv 40) 3 = p3 at *
              clear he hge hge2
              go_wp2_with fail
              refine (JP3.out w4).mono ?_
              rintro e w4' ⟨rfl, rfl⟩
              obtain ⟨w4, rfl⟩ : ∃ X, X = w4' := ⟨_, rfl⟩
              clear JP3 ca cb
              by_cases hp3 : p3 = 0
              · subst hp3
                have JR := hide (HK4.out.remove hk hat HE.out (by omega))
                have hlast : rows.length - 1 < rows.length := by omega
                obtain ⟨cnt, hcnt⟩ : ∃ c : Nat, c = rows.length - 1 := ⟨_, rfl⟩
                have tcn : (rows.length : Int) - 1 = (cnt : Int) := by omega
                have twn : IntKind.i64.wrap (cnt : Int) = (cnt : Int) := by rw [IntKind.wrap_i64]; omega
                have HCN : Hid (cnt = rows.length - 1) := hcnt
                have hxx : kx ≠ ka := by
                  have h1 := HK.out.lt ka (.inl rfl)
                  have h3 := HKX.out
                  omega
                have hrl : (rem rows at').length = cnt := by rw [rem_len, hcnt]
                have HRL := hide hrl
                have hth := HK4.out.2.2.2.1.1
                by_cases hl : at' = cnt
                · have JR1 : Hid (Calls Try.prog 13 #[.pointer (some ⟨g, 0, none⟩), .int .i64 (at' : Int)] w4 fun e w' => e = .returned (.tuple #[.agg #[.int .i64 0, .int .i64 0], .bool false, .int .i64 0]) ∧ Hid ((Tf w.heap.size (fun k => k = ka ∨ k = kw ∨ k = kx) w' g (n + 1) (rem rows at') (remCols cols at') ∧ Bl w' ka th ∧ Nl w' kw wi ∧ Below w.heap.size w w' ∧ KeptN (fun k => k = ka ∨ k = kw ∨ k = kx) w4 w') ∧ Kr nc (th.set k false) wi (rem rows at') (remCols cols at'))) := by
                    have := JR.out
                    rw [if_pos (show at' = rows.length - 1 by omega), decide_eq_false (fun h => h (show at' = rows.length - 1 by omega))] at this
                    exact this
                  clear JR hcnt hrl
                  subst hl
                  go_wp2_with fail
                  refine JR1.out.mono ?_
                  rintro e w5 ⟨rfl, HU⟩
                  have m1 : ∀ o, (w5.alloc o).cell? ⟨ka, k, none⟩ = some (.bool (th.getD k false)) := fun o => ((below_alloc w5 o).cell (p := ⟨ka, k, none⟩) (lt_of_block HU.out.1.2.1)).trans (HU.out.1.2.1.cell k (by omega))
                  have m2 : ∀ o, (w5.alloc o).frozen? ⟨ka, k, none⟩ = false := fun o => frozen_of_row _ ka k _ 42 (((below_alloc w5 o).block ka (lt_of_block HU.out.1.2.1)).trans HU.out.1.2.1)
                  have FIN : Hid (∀ o, Kv w (fun q => q = ka ∨ q = kw ∨ q = kx) ((w5.alloc o).setCell ⟨ka, k, none⟩ (.bool false)) g ka kw nc (n + 1) (th.set k false) wi (rem rows at') (remCols cols at') ∧ ((w5.alloc o).setCell ⟨ka, k, none⟩ (.bool false)).heap[kx]? = some (.cells #[.int .i64 (k : Int), .int .i64 5] 32 (0, 0))) := fun o => by
                    obtain ⟨⟨u1, u2, u3, u4, u5⟩, u6⟩ := HU.out
                    have hb := below_alloc w5 o
                    exact kv_put2 false _ (u1.later hb) ((hb.block ka (lt_of_block u2)).trans u2) ((hb.block kw (lt_of_block u3)).trans u3) (u4.trans (hb.mono u4.size)) u6 (.inl rfl) (.inr (.inl rfl)) (.inr (.inr rfl)) HK4.out.2.2.2.2.2.2.2.1 HK4.out.2.2.2.2.2.2.2.2 hxx ((hb.block kx (lt_of_block ((u5 kx (.inr (.inr rfl))).trans HBX4.out))).trans ((u5 kx (.inr (.inr rfl))).trans HBX4.out))
                  clear JR1
                  go_wp2_with fail
                  go_meet
                  exact ⟨n + 1, _, _, rem rows at', _, val_int (by rw [HRL.out]), by omega, (FIN.out _).1, (FIN.out _).2, HKB⟩
                · have t7 : ((at' : Int) != (cnt : Int)) = true := by rw [bne_iff_ne]; omega
                  obtain ⟨l1, hl1⟩ : ∃ l, l = (rows[rows.length - 1]'hlast).1 := ⟨_, rfl⟩
                  obtain ⟨l2, hl2⟩ : ∃ l, l = (rows[rows.length - 1]'hlast).2 := ⟨_, rfl⟩
                  have JR1 : Hid (Calls Try.prog 13 #[.pointer (some ⟨g, 0, none⟩), .int .i64 (at' : Int)] w4 fun e w' => e = .returned (.tuple #[.agg #[.int .i64 l1, .int .i64 l2], .bool true, .int .i64 0]) ∧ Hid ((Tf w.heap.size (fun k => k = ka ∨ k = kw ∨ k = kx) w' g (n + 1) (rem rows at') (remCols cols at') ∧ Bl w' ka th ∧ Nl w' kw wi ∧ Below w.heap.size w w' ∧ KeptN (fun k => k = ka ∨ k = kw ∨ k = kx) w4 w') ∧ Kr nc (th.set k false) wi (rem rows at') (remCols cols at'))) := by
                    have := JR.out
                    rw [if_neg (show ¬ at' = rows.length - 1 by omega), decide_eq_true (show at' ≠ rows.length - 1 by omega)] at this
                    rw [hl1, hl2]
                    exact this
                  have HLL : Hid (rows[rows.length - 1]'hlast = (l1, l2) ∧ at' ≠ rows.length - 1) := ⟨by rw [hl1, hl2], by omega⟩
                  have hcn2 : at' < cnt := by omega
                  clear JR hl hcnt hrl hl1 hl2
                  go_wp2_with fail
                  refine JR1.out.mono ?_
                  rintro e w5 ⟨rfl, HU⟩
                  obtain ⟨w6, hw6⟩ : ∃ X, X = w5.alloc (.cells #[.int .i64 l1, .int .i64 l2] 32) := ⟨_, rfl⟩
                  have B6 : Below w5.heap.size w5 w6 := hw6 ▸ below_alloc w5 _
                  have JF6 : Hid (Calls Try.prog 11 #[.pointer (some ⟨g, 0, none⟩), .agg #[.int .i64 l1, .int .i64 l2]] w6 fun e w' => e = .returned (.int .i64 (at' : Int)) ∧ Below w6.heap.size w6 w') := by
                    obtain ⟨⟨⟨S, u1, -⟩, -⟩, -⟩ := HU.out
                    obtain ⟨lab, vr, gm, vc, cs, f, z1, z2, z3, z4, z5, -⟩ := id u1
                    have hlt : at' < (rem rows at').length := by rw [HRL.out]; exact hcn2
                    have hel : (rem rows at')[at'] = (l1, l2) := by
                      rw [rem_at rows at' at' hat hlt, if_pos rfl]
                      exact HLL.out.1
                    have hin : InB (l1, l2) := z5 _ (hel ▸ List.getElem_mem hlt)
                    refine (find_any (u1.later B6) l1 l2 hin).mono ?_
                    rintro e w' ⟨r, rfl, hf, hb⟩
                    refine ⟨?_, hb⟩
                    rcases hf with ⟨-, hn⟩ | ⟨q, hq, rfl, hqe⟩
                    · exact absurd (hel ▸ List.getElem_mem hlt) hn
                    · rw [z2.inj hq hlt (hqe.trans hel.symm)]
                  rw [hw6] at JF6
                  have HB6 : Hid (Below w5.heap.size w5 (w5.alloc (.cells #[.int .i64 l1, .int .i64 l2] 32))) := below_alloc w5 _
                  clear JR1 hw6 B6
                  go_wp2_with fail
                  refine JF6.out.mono ?_
                  rintro e w7 ⟨rfl, hb7⟩
                  have HB7 := hide (below_on HB6.out hb7)
                  have m1 : w7.cell? ⟨ka, k, none⟩ = some (.bool (th.getD k false)) := (HB7.out.cell (p := ⟨ka, k, none⟩) (lt_of_block HU.out.1.2.1)).trans (HU.out.1.2.1.cell k (by omega))
                  have m2 : w7.frozen? ⟨ka, k, none⟩ = false := frozen_of_row _ ka k _ 42 ((HB7.out.block ka (lt_of_block HU.out.1.2.1)).trans HU.out.1.2.1)
                  have FIN : Hid (Kv w (fun q => q = ka ∨ q = kw ∨ q = kx) (w7.setCell ⟨ka, k, none⟩ (.bool false)) g ka kw nc (n + 1) (th.set k false) wi (rem rows at') (remCols cols at') ∧ (w7.setCell ⟨ka, k, none⟩ (.bool false)).heap[kx]? = some (.cells #[.int .i64 (k : Int), .int .i64 5] 32 (0, 0))) := by
                    obtain ⟨⟨u1, u2, u3, u4, u5⟩, u6⟩ := HU.out
                    have hb := HB7.out
                    exact kv_put2 false _ (u1.later hb) ((hb.block ka (lt_of_block u2)).trans u2) ((hb.block kw (lt_of_block u3)).trans u3) (u4.trans (hb.mono u4.size)) u6 (.inl rfl) (.inr (.inl rfl)) (.inr (.inr rfl)) HK4.out.2.2.2.2.2.2.2.1 HK4.out.2.2.2.2.2.2.2.2 hxx ((hb.block kx (lt_of_block ((u5 kx (.inr (.inr rfl))).trans HBX4.out))).trans ((u5 kx (.inr (.inr rfl))).trans HBX4.out))
                  clear JF6 hb7 HB6
                  go_wp2_with fail
                  go_meet
                  exact ⟨n + 1, _, _, rem rows at', _, val_int (by rw [HRL.out]), by omega, FIN.out.1, FIN.out.2, HKB⟩
              · have t6 : ((p3 : Int) == 0) = false := by rw [beq_eq_false_iff_ne]; omega
                go_wp2_with fail
                go_meet
                exact ⟨n, th, wi, rows, cols, rfl, by omega, HK4, HBX4, HKB⟩
          obtain ⟨n', th', wi', rows', cols', rfl, hn', HK8, HBX8, HKB8⟩ := hcut
          obtain ⟨w8, rfl⟩ : ∃ X, X = wc := ⟨_, rfl⟩
          obtain ⟨bb', hbb'⟩ : ∃ b, b = th'.getD k false := ⟨_, rfl⟩
          have S8 : Hid (∀ W, Below w8.heap.size w8 W → W.cell? ⟨kx, 0, none⟩ = some (.int .i64 (k : Int)) ∧ W.cell? ⟨kx, 1, none⟩ = some (.int .i64 5) ∧ W.cell? ⟨ka, k, none⟩ = some (.bool bb')) := fun W hb => by
            obtain ⟨o0, o1⟩ := BX.out W ((hb.block kx (lt_of_block HBX8.out)).trans HBX8.out)
            have h8 := HK8.out.later hb
            rw [hbb']
            exact ⟨o0, o1, h8.2.1.cell k (by rw [h8.2.2.2.1.1]; exact hk)⟩
          have J14 : Hid (∀ W, Below w8.heap.size w8 W → Calls Try.prog 14 #[.pointer (some ⟨g, 0, none⟩)] W fun e w' => e = .returned (.int .i64 (rows'.length : Int)) ∧ Hid (Below w8.heap.size w8 w') ∧ w'.cell? ⟨kx, 0, none⟩ = some (.int .i64 (k : Int)) ∧ w'.cell? ⟨kx, 1, none⟩ = some (.int .i64 5) ∧ w'.cell? ⟨ka, k, none⟩ = some (.bool bb')) := fun W hb => by
            obtain ⟨S, f, h1, -⟩ := (HK8.out.later hb).facts
            exact (len_any h1).mono (fun e w' ⟨h2, h3⟩ => by subst h3; exact ⟨h2, hb, S8.out _ hb⟩)
          have J11 : Hid (∀ W, Below w8.heap.size w8 W → Calls Try.prog 11 #[.pointer (some ⟨g, 0, none⟩), .agg #[.int .i64 (k : Int), .int .i64 5]] W fun e w' => ∃ r : Int, e = .returned (.int .i64 r) ∧ decide (0 ≤ r) = bb' ∧ Hid (Below w8.heap.size w8 w') ∧ w'.cell? ⟨kx, 0, none⟩ = some (.int .i64 (k : Int)) ∧ w'.cell? ⟨kx, 1, none⟩ = some (.int .i64 5) ∧ w'.cell? ⟨ka, k, none⟩ = some (.bool bb')) := fun W hb => by
            have h8 := HK8.out.later hb
            exact (h8.find hk 5 (by omega)).mono (fun e w' ⟨r, h2, h3, h4⟩ => ⟨r, h2, by rw [hbb']; exact h8.2.2.2.1.ge hk h3, below_on hb h4, S8.out _ (below_on hb h4)⟩)
          obtain ⟨y0, y1, y2⟩ := S8.out w8 (Below.refl _ _)
          clear hbb'
          go_upto_region 35 with fail
          go_region_held3 (fun W => W.cell? ⟨kx, 0, none⟩ = some (.int .i64 (k : Int)) ∧ W.cell? ⟨kx, 1, none⟩ = some (.int .i64 5) ∧ W.cell? ⟨ka, k, none⟩ = some (.bool bb')) (go_keep) (first | (go_at_call 14; refine (J14.out _ (below_drew w8)).mono ?_; rintro e w9 ⟨rfl, HB9, d0, d1, d2⟩) | (go_at_call 11; refine (J11.out _ HB9.out).mono ?_; rintro e w10 ⟨r', rfl, hr', HB10, d0, d1, d2⟩))
          all_goals
            have hr9 : decide (r' ≥ 0) = bb' := hr'
            go_wp2_with fail
            go_roundw
            case rel =>
              have hb := HB10.out
              exact ⟨i + 1, n', th', wi', rows', cols', by omega, by omega, by go_num, rfl, by omega, HK8.out.fence hb (fun q e => ⟨.inl (by rcases e with e | e; exact .inl e; exact .inr (.inl e)), by
                have := HK8.out.lt q (by rcases e with e | e; exact .inl e; exact .inr (.inl e))
                have := hb.size
                omega⟩) (.inl rfl) (.inr rfl), HKB8⟩
            case measure => simp [intOf]; omega
        · have t2 : ¬ (i : Int) < 400 := by omega
          go_wp2_with fail
          go_meet
          exact ⟨n, th, wi, rows, cols, rfl, HK, HKB⟩
      · have t1 : ¬ (i : Int) < (A.length : Int) := by omega
        go_wp2_with fail
        go_meet
        exact ⟨n, th, wi, rows, cols, rfl, HK, HKB⟩
  obtain ⟨n, th, wi, rows, cols, rfl, HK, HKB⟩ := hcut
  obtain ⟨w20, rfl⟩ : ∃ X, X = wc := ⟨_, rfl⟩
  clear HK0
  have hfew : rows.length ≤ 40 := by
    obtain ⟨S, f, -, -, -, h, -⟩ := HK.out.facts
    exact h
  have hcols : cols.length = nc := HK.out.2.2.2.1.2.2.1
  go_wp2_with fail
  go_loopw [23] (fun v23 W => ∃ k : Nat, k ≤ 40 ∧ v23 = .int .i64 (k : Int) ∧ Hid (Kv w (fun k => k = ka ∨ k = kw) W g ka kw nc n th wi rows cols)) (fun v23 _ => 40 - (intOf v23).toNat)
  case atStart => exact ⟨0, by omega, rfl, HK⟩
  case round =>
    obtain ⟨k, hk4, rfl, HKr⟩ := hrel
    clear HK
    by_cases hk : k < 40
    · have tk : (k : Int) < 40 := by omega
      go_upto_region 41 with fail
      obtain ⟨w3, hw3⟩ : ∃ X, X = wr.alloc (.cells #[.int .i64 (k : Int), .int .i64 5] 32) := ⟨_, rfl⟩
      have B3 : Below wr.heap.size wr w3 := hw3 ▸ below_alloc wr _
      have hbx : w3.heap[wr.heap.size]? = some (.cells #[.int .i64 (k : Int), .int .i64 5] 32 (0, 0)) := hw3 ▸ heap_alloc_new wr _
      rw [← hw3]
      obtain ⟨kx, hkx⟩ : ∃ k, k = wr.heap.size := ⟨_, rfl⟩
      rw [← hkx] at hbx ⊢
      have HK3 := hide (HKr.out.later B3)
      have HBX := hide hbx
      have BX : Hid (∀ W, Below w3.heap.size w3 W → W.cell? ⟨kx, 0, none⟩ = some (.int .i64 (k : Int)) ∧ W.cell? ⟨kx, 1, none⟩ = some (.int .i64 5)) := fun W hb => by
        have h := (hb.block kx (lt_of_block HBX.out)).trans HBX.out
        exact ⟨by rw [cell_of_row W kx _ _ 32 (0, 0) h]; rfl, by rw [cell_of_row W kx _ _ 32 (0, 0) h]; rfl⟩
      clear hw3 hkx B3 hbx
      obtain ⟨p0, p1⟩ := BX.out w3 (Below.refl _ _)
      have JF := hide (HK3.out.find hk 5 (by omega))
      go_wp2_with fail
      refine JF.out.mono ?_
      rintro e w4 ⟨r, rfl, hfnd, hb4⟩
      have HK4 := hide (HK3.out.later hb4)
      have hge := HK4.out.2.2.2.1.ge hk hfnd
      have HFN := hide hfnd
      obtain ⟨bb, hbb⟩ : ∃ b, b = th.getD k false := ⟨_, rfl⟩
      have cb := HK4.out.2.1.cell k (by rw [HK4.out.2.2.2.1.1]; exact hk)
      rw [← hbb] at hge cb
      have hge2 : decide (r ≥ 0) = bb := hge
      have HB4 := hide hb4
      have JF4 := hide (HK4.out.find hk 4 (by omega))
      clear hbb hfnd hb4 JF p0 p1
      go_wp2_with fail
      refine JF4.out.mono ?_
      rintro e w5 ⟨r4, rfl, hf4, hb5⟩
      obtain rfl := HK4.out.2.2.2.1.four hf4
      have HK5 := hide (HK4.out.later hb5)
      have HB5 := hide (below_on HB4.out hb5)
      clear hf4 hb5 JF4 cb
      rcases HFN.out with ⟨rfl, hnn⟩ | ⟨at', hat, rfl, he⟩
      · obtain rfl : bb = false := by rw [← hge]; rfl
        clear HFN hge hge2 hnn
        go_wp2_with fail
        go_roundw
        case rel => exact ⟨k + 1, by omega, by go_num, HK5⟩
        case measure => simp [intOf]; omega
      · obtain rfl : bb = true := by rw [← hge]; simp
        have HE := hide he
        have tat : ¬ (at' : Int) < 0 := by omega
        have JR : Hid (Calls Try.prog 15 #[.pointer (some ⟨g, 0, none⟩), .int .i64 (at' : Int)] w5 fun e w' => ∃ v, e = .returned (.tuple #[.agg #[.int .i64 (k : Int), .int .i64 5], v, .int .i64 0]) ∧ w'.ownsRow w5.heap.size 2 1 v nc (zc (rowOf cols at')) ∧ Below w5.heap.size w5 w') := by
          obtain ⟨S, f, h1, -⟩ := HK5.out.facts
          have := row_any h1 at' hat
          rw [HE.out, hcols] at this
          exact this
        clear HFN hge hge2 he
        go_wp2_with fail
        refine JR.out.mono ?_
        rintro e w6 ⟨v, rfl, hov, hb6⟩
        have hlv : (rowOf cols at').length = nc := by rw [rowOf_len]; exact hcols
        obtain ⟨ao, cvv, rfl⟩ := own_len hov
        obtain ⟨hcv1, hcv2⟩ := own_cap hov
        have HOV := hide hov
        have HB6 := hide hb6
        obtain ⟨o0, o1⟩ := BX.out w6 (below_on HB5.out hb6)
        have o0' : ∀ o, (w6.alloc o).cell? ⟨kx, 0, none⟩ = some (.int .i64 (k : Int)) := fun o => ((below_alloc w6 o).cell (p := ⟨kx, 0, none⟩) (World.block_lt_of_cell? w6 _ o0)).trans o0
        have o1' : ∀ o, (w6.alloc o).cell? ⟨kx, 1, none⟩ = some (.int .i64 5) := fun o => ((below_alloc w6 o).cell (p := ⟨kx, 1, none⟩) (World.block_lt_of_cell? w6 _ o1)).trans o1
        clear JR hov hb6
        go_upto_block 7 with fail
        obtain ⟨w7, hw7⟩ : ∃ X, X = w6.alloc (.cells #[.int .i64 (k : Int), .int .i64 5] 32) := ⟨_, rfl⟩
        have B7 : Below w6.heap.size w6 w7 := hw7 ▸ below_alloc w6 _
        rw [← hw7]
        have HK7 := hide ((HK5.out.later HB6.out).later B7)
        have HOV7 := hide (own_later HOV.out B7)
        clear hw7 B7 o0 o1 o0' o1'
        go_wp2_with fail
        go_loopw [29] (fun v29 W => ∃ j : Nat, j ≤ nc ∧ v29 = .int .i64 (j : Int) ∧ Hid (Below w7.heap.size w7 W)) (fun v29 _ => nc - (intOf v29).toNat)
        case atStart => exact ⟨0, Nat.zero_le _, rfl, Below.refl _ _⟩
        case round =>
          obtain ⟨j, hjl, rfl, HB⟩ := hrel
          by_cases hj : j < nc
          · have t5 : (j : Int) < (nc : Int) := by omega
            have hjc : j < cols.length := by omega
            have JC : Hid (Calls Try.prog 16 #[.pointer (some ⟨g, 0, none⟩), .int .i64 (j : Int)] wr fun e w' => ∃ v, e = .returned (.tuple #[v, .int .i64 0]) ∧ w'.ownsRow wr.heap.size 2 1 v rows.length (zc cols[j]) ∧ Below wr.heap.size wr w') := by
              obtain ⟨S, f, h1, -⟩ := (HK7.out.later HB.out).facts
              exact column_any h1 j hjc
            have hlen : cols[j].length = rows.length := by
              obtain ⟨S, f, -, -, h3, -⟩ := HK7.out.facts
              exact h3 _ (List.getElem_mem hjc)
            go_wp2_with fail
            refine JC.out.mono ?_
            rintro e w9 ⟨c, rfl, hoc, hb9⟩
            have HB9 := hide (below_on HB.out hb9)
            have hov9 := own_later HOV7.out HB9.out
            obtain ⟨gv, cv', e1, -, -⟩ := own_form hov9 (by omega)
            simp only [Value.slice.injEq] at e1
            obtain ⟨rfl, -, rfl⟩ := e1
            obtain ⟨gx, cx, rfl, hcx1, hcx2⟩ := own_form hoc (by omega)
            have q1 := own_num hoc at' (by omega)
            have q2 := own_num hov9 j (by omega)
            rw [rowOf_at cols at' j hjc (by omega)] at q2
            have hK9 := HK7.out.later HB9.out
            have q3 := hK9.2.2.1.cell k (by rw [hK9.2.2.2.1.2.1]; exact hk)
            have hrel9 := hK9.2.2.2.1.2.2.2.2.2 at' hat j hjc
            rw [HE.out] at hrel9
            simp only [Int.toNat_natCast] at hrel9
            have hg9 : cols[j].getD at' 0 = cols[j][at']'(by omega) := by rw [List.getD_eq_getElem?_getD, List.getElem?_eq_getElem (by omega)]; rfl
            rw [hg9] at hrel9
            have hkb := HKB.out k
            generalize wi.getD k 0 = y at *
            generalize cols[j][at']'(by omega) = x at *
            have twy : IntKind.i64.wrap (y + (j : Int)) = x := by rw [IntKind.wrap_i64]; omega
            have ta : (at' : Int) < (rows.length : Int) := by omega
            clear hK9 hg9 hrel9 hoc hov9 JC hb9
            go_upto_region 52 with fail
            go_region_held3 (fun W => W.cell? ⟨gx, at', none⟩ = some (.int .i64 x) ∧ W.cell? ⟨gv, j, none⟩ = some (.int .i64 x) ∧ W.cell? ⟨kw, k, none⟩ = some (.int .i64 y)) (go_keep) (fail)
            go_wp2_with fail
            go_roundw
            case rel => exact ⟨j + 1, by omega, by go_num, below_on HB9.out (below_drew _)⟩
            case measure => simp [intOf]; omega
          · have t5 : ¬ (j : Int) < (nc : Int) := by omega
            go_wp2_with fail
            go_roundw
            case rel => exact ⟨k + 1, by omega, by go_num, HK7.out.later HB.out⟩
            case measure => simp [intOf]; omega
    · have tk : ¬ (k : Int) < 40 := by omega
      go_wp2_with fail
      go_ret
      exact ⟨rfl, HKr.out.2.2.2.2.1⟩
end Go.Proofs.Ytlnjphfkinajdaa
