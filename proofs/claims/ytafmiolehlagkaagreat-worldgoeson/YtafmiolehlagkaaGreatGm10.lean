import Derived.Test.YtafmiolehlagkaaGreatGm7
import Derived.Test.YtafmiolehlagkaaGreatGm8
import Derived.Test.YtafmiolehlagkaaGreatGm9
/-
  World: the reader of bytes: a row of a pool's numbers.
-/
namespace Go.Proofs.YtafmiolehlagkaaGreat
open Go.RowKit
set_option maxRecDepth 100000
theorem upl (xs : List Nat) : (up xs).length = xs.length := by simp [up]
theorem is_own {w : World} {v : Value} {B n : Nat} {l : List Int} (h : w.ownsRow B 3 1 v n (zc l)) (hn : n = l.length) : Is w v l := by
  subst hn
  rcases h.2 with ⟨rfl, hl⟩ | ⟨g, c, cur, rfl, -, hg, h1, h2, hcs, htake⟩
  · obtain rfl := List.eq_nil_of_length_eq_zero hl
    exact ⟨none, 0, rfl, Nat.le_refl _, Nat.zero_le _, fun j hj => absurd hj (by simp)⟩
  · refine ⟨_, c, rfl, h1, h2, fun j hj => ⟨g, 0, rfl, ?_⟩⟩
    rw [Nat.zero_add, h.cellAt j (by omega), zc_at l j hj]
theorem Rb.well {w : World} {B k : Nat} {l : List UInt8} (h : Rb w B k l) : Rb (w.setCell ⟨k, 1, none⟩ (.bool false)) B k l := by
  obtain ⟨h1, v, h2, h3, h4⟩ := h
  have hm : Mv w (w.setCell ⟨k, 1, none⟩ (.bool false)) (fun j => j = k) := (Mv.refl w (fun j => j = k)).set (g := k) rfl _ _
  refine ⟨h1, v, ?_, Bs.mv h3 hm (fun j e e2 => ?_), h4⟩
  · rw [heap_setCell_same w k 1 _ 126 _ h2]
    rfl
  · have := h4 j e
    omega
theorem Rb.cells {w : World} {B k : Nat} {l : List UInt8} (h : Rb w B k l) : w.cell? ⟨k, 1, none⟩ = some (.bool false) ∧ w.frozen? ⟨k, 1, none⟩ = false := by
  obtain ⟨h1, v, h2, h3, h4⟩ := h
  exact ⟨by rw [cell_of_row w k _ _ 126 (0, 0) h2]; rfl, frozen_of_row w k 1 _ 126 h2⟩
set_option maxHeartbeats 4000000 in
theorem row_read (w : World) (B k : Nat) (xs : List Nat) (l : List UInt8) (h : Rb w B k (Pak.Rw.rowB (up xs) ++ l)) (hl : xs.length ≤ 200) (hf : ∀ x ∈ xs, x ≤ 2000000) :
    Calls Tryz.prog 63 #[.pointer (some ⟨k, 0, none⟩)] w fun e w' => ∃ v, e = .returned v ∧ Is w' v (up xs) ∧ (∀ q, v.ownBlock = some q → w.heap.size ≤ q) ∧ Rb w' B k l ∧ Mv w w' (fun j => j = k) := by
  obtain ⟨i0, hi0, hz0, hz1, hz2⟩ := info_parts info3
  have hkw := h.lt
  have hfit : Pak.Rw.AllFit (up xs) := fun z hz => by
    obtain ⟨x, hx, rfl⟩ := List.mem_map.1 hz
    have := hf x hx
    unfold Pak.Rw.Fits
    omega
  have hrow := Pak.row_put2 hfit (by rw [upl]; omega) 200 (by rw [upl]; exact hl) l
  have hpos := Pak.row_pos (up xs)
  obtain ⟨hB, v0, hk, hv, hj⟩ := h
  have JR := Pak.getRow_any v0 _ 200 w hv (by omega) (by omega)
  rw [show ((200 : Nat) : Int) = 200 from rfl] at hrow
  rw [hrow] at JR
  have JS : Hid (∀ w', Below w.heap.size w w' → Calls Tryz.prog 129 #[.pointer (some ⟨k, 0, none⟩), .int .i64 ((Pak.Rw.rowB (up xs)).length : Int)] w' fun e w'' => e = .returned (.tuple #[]) ∧ Rb w'' B k l ∧ Mv w' w'' (fun j => j = k)) := fun w' hb => by
    have := skip_any w' B k _ ((show Rb w B k _ from ⟨hB, v0, hk, hv, hj⟩).later hb) (Pak.Rw.rowB (up xs)).length hpos (by simp)
    rw [List.drop_left] at this
    exact this
  have c0 : w.cell? ⟨k, 0, none⟩ = some v0 := by rw [cell_of_row w k _ _ 126 (0, 0) hk]; rfl
  have H1 := hide JR
  have HF := hide hf
  have HL := hide (upl xs)
  obtain ⟨n, hn⟩ : ∃ n, n = xs.length := ⟨_, rfl⟩
  have HN := hide hn
  clear JR hk hv hj hrow hfit hf
  rw [← hn] at hl HL
  generalize hu : (Pak.Rw.rowB (up xs)).length = u at *
  clear hu hn
  go_enter Tryz.func63, Tryz.ntmps63
  go_wp2_with fail
  refine H1.out.mono ?_
  rintro e w1 ⟨⟨v1, rfl, ho1⟩, hb1⟩
  have HO1 : Hid (w1.ownsRow w.heap.size 2 1 v1 n (zc (up xs))) := by
    have := ho1
    unfold Pak.Nown at this
    rw [HL.out] at this
    exact this
  have J2 := hide (JS.out w1 hb1)
  have HB1 := hide hb1
  clear ho1 hb1 JS H1
  obtain ⟨a1, cc1, rfl⟩ := own_len HO1.out
  go_wp2_with fail
  refine J2.out.mono ?_
  rintro e w2 ⟨rfl, hr2, hm2⟩
  have HR2 := hide hr2
  have hsz1 := HB1.out.size
  have HM2 : Hid (Mv w w2 (fun j => j = k)) := (Mv.of_below HB1.out _).trans hm2 (fun _ _ e => e)
  have HO2 : Hid (w2.ownsRow w.heap.size 2 1 (.slice a1 n cc1) n (zc (up xs))) := hm2.own HO1.out (fun q e e2 => by have := (HO1.out.lt q e).1; omega)
  clear HO1 hr2 hm2 J2
  have hcap := own_cap HO2.out
  go_wp2_with (at_make; refine wpList_make_full _ rfl _ _ 45 rfl w2.heap.size 3 i0 (.int .i64 0) 1 Tryz.underlying45 hi0 hz0 hz1 .i64 .i64 _ _ n rfl rfl ?c1 ?c2 ?c3 ?c4 ?c5 ?_)
  case c1 => omega
  case c2 => omega
  case c3 => rw [hz2]; omega
  case c4 => unfold maxLen; omega
  case c5 => omega
  intro w3 hown hgrow
  rw [toList_madeCells_one] at hown
  have hb3 : Below w2.heap.size w2 w3 := (Below.refl _ _).grown hgrow (Nat.le_refl _) (by intro k hk; cases hk)
  have HM3 : Hid (Mv w w3 (fun j => j = k)) := HM2.out.later hb3
  have HR3 : Hid (Rb w3 B k l) := HR2.out.later hb3
  have HO3 : Hid (w3.ownsRow w.heap.size 2 1 (.slice a1 n cc1) n (zc (up xs))) := own_later HO2.out hb3
  have HA : Hid (∀ q, (Value.slice a1 n cc1).ownBlock = some q → w.heap.size ≤ q ∧ q < w2.heap.size) := HO2.out.lt
  have HQ3 : Hid (w3.ownsRow w2.heap.size 3 1 (.slice (some ⟨w2.heap.size, 0, none⟩) n n) n (zc ((up xs).take 0 ++ List.replicate (n - 0) 0))) := by
    have e : zc ((up xs).take 0 ++ List.replicate (n - 0) 0) = List.replicate n (.int .i64 0) := by simp [zc]
    rw [e]
    exact hown
  have hs2 := HM2.out.size
  clear hown hgrow hb3 HR2 HO2 HM2 HB1 hsz1
  obtain ⟨ko, hko⟩ : ∃ k, k = w2.heap.size := ⟨_, rfl⟩
  rw [← hko] at HQ3 HA hs2 ⊢
  have hne : ko ≠ k := by omega
  clear hko
  go_wp2_with fail
  go_loopw [24] (fun v24 W => ∃ j : Nat, j ≤ n ∧ v24 = .int .i64 (j : Int) ∧ Hid (W.ownsRow ko 3 1 (.slice (some ⟨ko, 0, none⟩) n n) n (zc ((up xs).take j ++ List.replicate (n - j) 0))) ∧ Hid (W.ownsRow w.heap.size 2 1 (.slice a1 n cc1) n (zc (up xs))) ∧ Hid (Rb W B k l) ∧ Hid (Mv w W (fun j => j = k))) (fun v24 _ => n - (intOf v24).toNat)
  case atStart => exact ⟨0, Nat.zero_le _, rfl, HQ3, HO3, HR3, HM3⟩
  case round =>
    clear HQ3 HO3 HR3 HM3 c0
    obtain ⟨j, hjl, rfl, HQ, HO, HR, HM⟩ := hrel
    by_cases hj : j < n
    · have t1 : (j : Int) < (n : Int) := by omega
      have hju : j < (up xs).length := by have := HL.out; omega
      obtain ⟨ga, ca, e', -, -⟩ := own_form HO.out (by omega)
      simp only [Value.slice.injEq] at e'
      obtain ⟨rfl, -, rfl⟩ := e'
      have hga := HA.out ga rfl
      have e1 : wr.cell? ⟨ga, j, none⟩ = some (.int .i64 (up xs)[j]) := by
        rw [HO.out.cellAt j (by omega), zc_at _ j hju]
      have eo : wr.cell? ⟨ko, j, none⟩ = some (.int .i64 0) := by
        rw [HQ.out.cellAt j (by omega)]
        exact fill_at _ _ _ HL.out hj
      have ef := HQ.out.frozenAt j
      have hx : (up xs)[j]? = some (up xs)[j] := by simp [hju]
      have hst := (HQ.out.stored j (.int .i64 (up xs)[j])).1
      rw [zc_set, fill_set _ _ _ _ HL.out hj hx] at hst
      generalize (up xs)[j] = x at *
      have hm4 : Mv wr (wr.setCell ⟨ko, j, none⟩ (.int .i64 x)) (fun q => q = ko) := (Mv.refl wr (fun q => q = ko)).set (g := ko) rfl _ _
      have hr4 : Rb (wr.setCell ⟨ko, j, none⟩ (.int .i64 x)) B k l := HR.out.mv hm4 (fun q e => by omega)
      obtain ⟨d1, d2⟩ := hr4.cells
      have e2 : (wr.setCell ⟨ko, j, none⟩ (.int .i64 x)).cell? ⟨ko, j, none⟩ = some (.int .i64 x) := by
        rw [hst.cellAt j (by omega), zc_at _ j (by simp; have := HL.out; omega)]
        have hjt : j < ((up xs).take (j + 1)).length := by simp; have := HL.out; omega
        rw [List.getElem_append_left hjt, List.getElem_take]
        rw [List.getElem?_eq_getElem hju] at hx
        rw [Option.some.inj hx]
      have tx : (x != x) = false := by simp
      have hm5 : Mv (wr.setCell ⟨ko, j, none⟩ (.int .i64 x)) ((wr.setCell ⟨ko, j, none⟩ (.int .i64 x)).setCell ⟨k, 1, none⟩ (.bool false)) (fun q => q = k) := (Mv.refl _ (fun q => q = k)).set (g := k) rfl _ _
      have R5 := hide hr4.well
      have Q5 := hide (hm5.own hst (fun q e e2 => by cases e; exact hne e2))
      have O5 := hide (hm5.own (hm4.own HO.out (fun q e e2 => by have := HA.out q e; omega)) (fun q e e2 => by have := HA.out q e; omega))
      have M5 : Hid (Mv w ((wr.setCell ⟨ko, j, none⟩ (.int .i64 x)).setCell ⟨k, 1, none⟩ (.bool false)) (fun j => j = k)) := (HM.out.trans hm4 (fun q hq e => by omega)).trans hm5 (fun _ _ e => e)
      clear hst hx hm4 hm5 hr4 hga
      go_wp2_with fail
      go_roundw
      case rel => exact ⟨j + 1, by omega, by go_num, Q5, O5, R5, M5⟩
      case measure => simp [intOf]; omega
    · obtain rfl : j = n := by omega
      have t1 : ¬ (j : Int) < (j : Int) := by omega
      have hfin : (zc ((up xs).take j ++ List.replicate (j - j) 0)) = zc (up xs) := by
        rw [List.take_of_length_le (by have := HL.out; omega)]
        simp
      have hr := HQ.out
      rw [hfin] at hr
      have HIS := hide (is_own hr HL.out.symm)
      clear hr hfin HQ HO
      go_wp2_with fail
      go_ret
      exact ⟨_, rfl, HIS.out, fun q e => by cases e; exact hs2, HR.out, HM.out⟩
end Go.Proofs.YtafmiolehlagkaaGreat

/-
  World: Load, of what Snapshot has written.
-/
namespace Go.Proofs.YtafmiolehlagkaaGreat
open Go.RowKit
set_option maxRecDepth 100000
theorem Is.mv {w w' : World} {v : Value} {l : List Int} {S : Nat → Prop} (h : Is w v l) (hm : Mv w w' S) (hs : ∀ j, v.ownBlock = some j → ¬ S j) : Is w' v l := by
  obtain ⟨ao, c, rfl, h1, h2, h3⟩ := h
  refine ⟨ao, c, rfl, h1, h2, fun j hj => ?_⟩
  obtain ⟨g, o, rfl, hc⟩ := h3 j hj
  exact ⟨g, o, rfl, hm.cell hc (hs g rfl)⟩
theorem flat_val : ∀ R : List (Nat × List Int), R.flatMap (fun r => valB r.2) = (R.flatMap (·.2)).flatMap Pak.Rw.ivar
  | [] => rfl
  | r :: t => by
    rw [List.flatMap_cons, List.flatMap_cons, List.flatMap_append, flat_val t]
    rfl
section
variable {w w' W : World} {own : Nat → Nat} {gw gp gm gt M M' kr i : Nat} {vk vl : Value} {ks : List Kind} {gs fr gs' fr' : List Nat} {f f' : Int × Int → Option Nat} {q q' : Nat → Option Nat} {T T' : Nat → Ts} {C : Co}
/-- The world gets another pool. -/
theorem Wx.newpool {w4 w5 : World} {g' : Nat} (h : Wx 0 w4 own gw vk gp gm gt M ks gs' fr' f q T) (hb : Below w4.heap.size w4 w5) (hp : Pl w5 (fun k => w4.heap.size ≤ k) g' 200 gs fr) : Wx 0 (w5.setCell ⟨gw, 1, none⟩ (.pointer (some ⟨g', 0, none⟩))) (rel own w4 3) gw vk g' gm gt M ks gs fr f q T ∧ Mv w5 (w5.setCell ⟨gw, 1, none⟩ (.pointer (some ⟨g', 0, none⟩))) (fun k => k = gw) := by
  have hgw : gw < w4.heap.size := lt_of_block h.2.2.1
  have hm : Mv w5 (w5.setCell ⟨gw, 1, none⟩ (.pointer (some ⟨g', 0, none⟩))) (fun k => k = gw) := (Mv.refl w5 (fun k => k = gw)).set (g := gw) rfl _ _
  have k := h.frame (L := 3) (.inr (by omega)) (Mv.of_below hb (fun _ => False)) (fun _ _ e => e.elim)
  obtain ⟨h1, hlt, h2, h3, -, h5, h6, h7⟩ := k
  have hsz := hm.size
  refine ⟨⟨h1, ⟨by omega, by omega⟩, ?_, h3.next (fun j hj => hm.2.2.2.2 j hj.1 (fun e => ?_)) (fun j hj => ⟨by have := hj.1; omega, hj.2⟩), fun _ => ?_, fun _ => (h5 (by omega)).same (hm.2.2.2.2 gm hlt.1 (fun e => ?_)), fun _ => (h6 (by omega)).same (hm.2.2.2.2 gt hlt.2 (fun e => ?_)), fun s g hg _ => ((h7 s g hg (by omega)).frame hm (fun j hj e => ?_)).mono (fun j hj => ⟨by have := hj.1; omega, hj.2⟩)⟩, hm⟩
  · unfold Wc
    rw [heap_setCell_same w5 gw 1 _ 109 _ h2]
    rfl
  · have := hj.2
    rw [e, h1.1] at this
    omega
  · refine (hp.frame hm (fun j hj e => ?_)).tight.mono (fun j hj => ⟨hj.2, rel_new hj.1⟩)
    have : w4.heap.size ≤ j := hj
    omega
  · have := h1.2.1
    rw [e, h1.1] at this
    omega
  · have := h1.2.2
    rw [e, h1.1] at this
    omega
  · have := hj.2
    rw [e, h1.1] at this
    omega
def Lc (ks : List Kind) (gs fr : List Nat) (C : Co) : Prop := Ok 200 gs fr ∧ Lv gs fr C ∧ mayB ks ∧ ∀ e s vals, C e = some (s, vals) → Sb ks s ∧ s < 8192 ∧ vals.length = fsum ks s 1 ∧ Pak.Rw.AllFit vals
def onesB (ks : List Kind) (C : Co) (E : List (Int × Int)) : List UInt8 := E.flatMap (fun e => oneB ks (C e))
/-- A world that is being read: i of them have been put. -/
def Lq (w W : World) (own : Nat → Nat) (gw : Nat) (vk : Value) (gp gm gt kr i : Nat) (ks : List Kind) (gs fr : List Nat) (C : Co) (vl : Value) : Prop :=
  (∃ q T, Wx 0 W own gw vk gp gm gt (3 * i) ks gs fr (fC (Cr C ((allL gs fr).map ie) i)) q T ∧ Wi ks (fC (Cr C ((allL gs fr).map ie) i)) q T ∧ Ct (Cr C ((allL gs fr).map ie) i) T) ∧
  Rb W w.heap.size kr (onesB ks C (((allL gs fr).map ie).drop i)) ∧ own kr = 0 ∧ W.ownsRow w.heap.size 29 2 vl (allL gs fr).length (ec (allL gs fr)) ∧ (∀ k, vl.ownBlock = some k → own k = 0 ∧ k ≠ kr) ∧ (∀ k, k < w.heap.size → own k = 0) ∧ Below w.heap.size w W
theorem Lq.later (h : Lq w W own gw vk gp gm gt kr i ks gs fr C vl) (hb : Below W.heap.size W w') : Lq w w' (rel own W 0) gw vk gp gm gt kr i ks gs fr C vl := by
  obtain ⟨⟨q, T, h1, h2, h3⟩, h4, h5, h6, h7, h8, h9⟩ := h
  exact ⟨⟨q, T, h1.later hb, h2, h3⟩, h4.later hb, (rel_old h4.lt).trans h5, own_later h6 hb, fun k e => ⟨(rel_old (h6.lt k e).2).trans (h7 k e).1, (h7 k e).2⟩, fun k hk => (rel_old (Nat.lt_of_lt_of_le hk h9.size)).trans (h8 k hk), below_on h9 hb⟩
theorem Lc.at (hc : Lc ks gs fr C) (hi : i < (allL gs fr).length) : ∃ s row, C (ie (allL gs fr)[i]) = some (s, row) ∧ Sb ks s ∧ s < 8192 ∧ row.length = fsum ks s 1 ∧ row.length ≤ 48 ∧ Pak.Rw.AllFit row ∧ InB (ie (allL gs fr)[i]) := by
  have hE := all_livers hc.1 hc.2.1
  have hm : ie (allL gs fr)[i] ∈ (allL gs fr).map ie := List.mem_map.2 ⟨_, List.getElem_mem hi, rfl⟩
  have hib := hE.2.2.2 _ hm
  have h1 := (hE.2.2.1 _ hib).2 hm
  rw [fC_is] at h1
  obtain ⟨⟨s, row⟩, hp⟩ := Option.isSome_iff_exists.1 h1
  obtain ⟨a1, a2, a3, a4⟩ := hc.2.2.2 _ s row hp
  have := fsum_le ks s 1 (fun x hx => (hc.2.2.1.2.2.1 x hx).1)
  have := hc.2.2.1.2.1
  exact ⟨s, row, hp, a1, a2, a3, by omega, a4, hib⟩
/-- One entity's parts are read; then they are put. -/
theorem Lq.read (hc : Lc ks gs fr C) (h : Lq w W own gw vk gp gm gt kr i ks gs fr C vl) (hi : i < (allL gs fr).length) :
    Calls Tryz.prog 66 #[.pointer (some ⟨gw, 0, none⟩), .pointer (some ⟨kr, 0, none⟩)] W fun e w1 => ∃ v, e = .returned v ∧ w1.cell? ⟨kr, 1, none⟩ = some (.bool false) ∧ Mv W w1 (fun j => j = kr) ∧
      Hid (Calls Tryz.prog 67 #[.pointer (some ⟨gw, 0, none⟩), .agg #[.int .i64 ((allL gs fr)[i].1 : Int), .int .i64 ((allL gs fr)[i].2 : Int)], v] w1 fun e w2 => e = .returned (.tuple #[]) ∧ ∃ own', Hid (Lq w w2 own' gw vk gp gm gt kr (i + 1) ks gs fr C vl)) := by
  obtain ⟨s, row, hp, a1, a2, a3, a4, a5, hib⟩ := hc.at hi
  obtain ⟨⟨q, T, h1, h2, h3⟩, h4, h5, h6, h7, h8, h9⟩ := h
  have hE := all_livers hc.1 hc.2.1
  have hi2 : i < ((allL gs fr).map ie).length := by rw [List.length_map]; exact hi
  have hei : ((allL gs fr).map ie)[i] = ie (allL gs fr)[i] := List.getElem_map ..
  have hkr := h4.lt
  have hwh := h9.size
  have h4' : Rb W w.heap.size kr (Lib.uvarint s ++ (row.flatMap Pak.Rw.ivar ++ onesB ks C (((allL gs fr).map ie).drop (i + 1)))) := by
    have e : onesB ks C (((allL gs fr).map ie).drop i) = Lib.uvarint s ++ (row.flatMap Pak.Rw.ivar ++ onesB ks C (((allL gs fr).map ie).drop (i + 1))) := by
      unfold onesB
      rw [List.drop_eq_getElem_cons hi2, List.flatMap_cons, hei, hp]
      simp only [oneB, wrB]
      rw [List.append_assoc, flat_val, partsL_flat ks s 1 row a3]
    rw [← e]
    exact h4
  refine (read_any h1 hc.2.2.1.2.1 w.heap.size kr s row _ h4' h5 a1 a2 a3 a4 a5).mono ?_
  rintro e w1 ⟨v, rfl, L, r1, r2, r3, r4, r5⟩
  have hx := h1.frame (L := 0) (.inl rfl) r5 (fun j _ e => .inl (by rw [e]; exact h5))
  have hn := cr_next (C := C) hE.2.1 hi2
  rw [hei] at hn
  refine ⟨v, rfl, r4.cells.1, r5, ?_⟩
  refine (put_read hx h2 hc.2.2.1.2.1 (fun x hx => (hc.2.2.1.2.2.1 x hx).1) ((allL gs fr)[i].1 : Int) ((allL gs fr)[i].2 : Int) hib (show fC (Cr C ((allL gs fr).map ie) i) (ie (allL gs fr)[i]) = none by simp [fC, hn]) (fun F f1 f2 => cr_cnt hc.1 hc.2.1 hE hi2 F f1 f2) (by have := lives_cnt hc.2.1 hc.1.2.2.1 _ hE.2.1 (fun e he => (hE.2.2.1 e (hE.2.2.2 e he)).2 he); omega) r1 r2 r3 a3 a1).mono ?_
  rintro e w2 ⟨rfl, g, own', p1, p2, p3⟩
  have hst := cr_step (C := C) hi2 (p := (s, row)) (by rw [hei]; exact hp)
  rw [hei] at hst
  have hsz1 := r5.size
  have hold : ∀ k, k < W.heap.size → own' k = own k := fun k hk => (p2.1 k (by omega)).trans (rel_old hk)
  have hm2 := p2.2
  refine ⟨rfl, own', ⟨fun x => if x = s then some g else q x, moreT q T s (ie (allL gs fr)[i]) row, ?_, ?_, ?_⟩, ?_, (hold kr hkr).trans h5, ?_, fun k e => ⟨(hold k (h6.lt k e).2).trans (h7 k e).1, (h7 k e).2⟩, fun k hk => (hold k (by omega)).trans (h8 k hk), ?_⟩
  · rw [hst, fC_more]
    exact p1.up (by omega)
  · rw [hst, fC_more]
    exact p3
  · rw [hst]
    exact h3.put h2 a3
  · refine r4.mv hm2 (fun j e => ?_)
    have hj0 : ¬ j < w.heap.size := fun hj => e.1 ((rel_old (by omega)).trans (h8 j hj))
    refine ⟨by omega, fun ej => e.1 ?_⟩
    rw [ej, rel_old hkr]
    exact h5
  · refine hm2.own (r5.own h6 (fun k e e2 => (h7 k e).2 e2)) (fun k e e2 => e2.1 ?_)
    rw [rel_old (h6.lt k e).2]
    exact (h7 k e).1
  · refine (h9.trans (r5.below hwh (fun j e => by rw [e]; exact h4.1))).trans (hm2.below (by omega) (fun j e => ?_))
    exact Nat.le_of_not_lt (fun hj => e.1 ((rel_old (by omega)).trans (h8 j hj)))
theorem Lq.done (hc : Lc ks gs fr C) (h : Lq w W own gw vk gp gm gt kr (allL gs fr).length ks gs fr C vl) : Wn W own gw 600 ks gs fr C := by
  obtain ⟨⟨q, T, h1, h2, h3⟩, h4, h5, h6, h7, h8, h9⟩ := h
  have hE := all_livers hc.1 hc.2.1
  have hcr := cr_all hc.1 hc.2.1 hE
  rw [List.length_map] at hcr
  rw [hcr] at h1 h2 h3
  have := lives_cnt hc.2.1 hc.1.2.2.1 _ hE.2.1 (fun e he => (hE.2.2.1 e (hE.2.2.2 e he)).2 he)
  rw [List.length_map] at this
  exact ⟨vk, gp, gm, gt, q, T, h1.up (by omega), h2, h3, hc.2.2.1, hc.2.1, fun e s vals he => (hc.2.2.2 e s vals he).2.2.2⟩
end
end Go.Proofs.YtafmiolehlagkaaGreat

/-
  World: Load, its walk.
-/
namespace Go.Proofs.YtafmiolehlagkaaGreat
open Go.RowKit
set_option maxRecDepth 100000
set_option maxHeartbeats 8000000 in
theorem load_any {w : World} {ks : List Kind} {gs fr : List Nat} {C : Co} (va vb : Value) (hk : Kr w va ks) (l : List UInt8) (hb : Pak.Bs w vb l) (hl : l = Pak.Rw.rowB (up gs) ++ (Pak.Rw.rowB (up fr) ++ onesB ks C ((allL gs fr).map ie))) (hc : Lc ks gs fr C) :
    Calls Tryz.prog 18 #[va, vb] w fun e w' => ∃ gw own, e = .returned (.tuple #[.pointer (some ⟨gw, 0, none⟩), .int .i64 0]) ∧ (∀ k, k < w.heap.size → own k = 0) ∧ Wn w' own gw 600 ks gs fr C ∧ Below w.heap.size w w' := by
  have hgood : Good 200 (up gs) (up fr) := ⟨200, gs, fr, rfl, rfl, rfl, hc.1⟩
  have hgl : gs.length ≤ 200 := hc.1.2.2.1
  have hgx : ∀ x ∈ gs, x ≤ 2000000 := fun x hx => by have := (hc.1.2.2.2.1 x hx).2; omega
  have hfl : fr.length ≤ 200 := by
    have := nodup_len 200 fr hc.1.2.2.2.2.1 (fun n hn => by have := (hc.1.2.2.2.2.2 n hn).1; omega)
    exact this
  have hfx : ∀ x ∈ fr, x ≤ 2000000 := fun x hx => by have := (hc.1.2.2.2.2.2 x hx).1; omega
  have JN := hide (wnew_any hk hc.2.2.1 (fun _ => ([], [])))
  have HBs := hide hb
  have HL := hide hl
  have HC := hide hc
  have hown : ∀ j, vb.ownBlock = some j → j < w.heap.size := fun j e => by
    have hpos := Pak.row_pos (up gs)
    obtain ⟨ao, c, rfl, h1, h2, h3⟩ := hb
    have hlp : 0 < l.length := by rw [hl, List.length_append]; omega
    obtain ⟨g, o, rfl, hcell⟩ := h3 0 hlp
    cases e
    exact World.block_lt_of_cell? w _ hcell
  have HOWN := hide hown
  obtain ⟨ab, cb, rfl⟩ : ∃ ab cb, vb = .slice ab l.length cb := by
    obtain ⟨ao, c, e, -⟩ := hb
    exact ⟨ao, c, e⟩
  obtain ⟨nb, hnb⟩ : ∃ n, n = l.length := ⟨_, rfl⟩
  rw [← hnb] at HBs HOWN ⊢
  clear hk hb hl hc hown hnb
  go_enter Tryz.func18, Tryz.ntmps18
  go_wp2_with fail
  refine JN.out.mono ?_
  rintro e w1 ⟨gw, rfl, ⟨own, vk, gp, gm, gt, ho, hwx⟩, hb1⟩
  obtain ⟨w2, hw2⟩ : ∃ X, X = w1.alloc (.cells #[(.slice ab nb cb), .bool false] 126) := ⟨_, rfl⟩
  obtain ⟨kr, hkr⟩ : ∃ k, k = w1.heap.size := ⟨_, rfl⟩
  have b2 : Below w1.heap.size w1 w2 := hw2 ▸ below_alloc w1 _
  have hs1 := hb1.size
  have R2 : Hid (Rb w2 w.heap.size kr l) := by
    refine ⟨by omega, .slice ab nb cb, ?_, (HBs.out.below hb1 (Nat.le_refl _)).below b2 (Nat.le_refl _), HOWN.out⟩
    rw [hkr, hw2]
    exact heap_alloc_new w1 _
  have X2 : Hid (Wx 0 w2 (rel own w1 0) gw vk gp gm gt 0 ks [] [] (fun _ => none) (fun _ => none) (fun _ => ([], [])) ∧ rel own w1 0 kr = 0 ∧ (∀ k, k < w.heap.size → rel own w1 0 k = 0) ∧ Below w.heap.size w w2) := ⟨hwx.later b2, rel_new (by omega), fun k hk => (rel_old (by omega)).trans (ho k hk), below_on hb1 b2⟩
  rw [HL.out] at R2
  have J2 := hide (row_read w2 w.heap.size kr gs _ R2.out hgl hgx)
  generalize rel own w1 0 = own2 at *
  clear hwx ho hb1 b2 hs1 JN HBs HOWN HL
  go_wp2_with fail
  rw [← hw2, ← hkr]
  clear hw2 hkr
  refine J2.out.mono ?_
  rintro e w3 ⟨v9, rfl, i3, f3, r3, m3⟩
  have hkr2 := R2.out.lt
  have X3 : Hid (Wx 0 w3 (rel own2 w2 0) gw vk gp gm gt 0 ks [] [] (fun _ => none) (fun _ => none) (fun _ => ([], [])) ∧ rel own2 w2 0 kr = 0 ∧ (∀ k, k < w.heap.size → rel own2 w2 0 k = 0) ∧ Below w.heap.size w w3) := by
    obtain ⟨a1, a2, a3, a4⟩ := X2.out
    have := a4.size
    exact ⟨a1.frame (L := 0) (.inl rfl) m3 (fun j _ e => .inl (by rw [e]; exact a2)), (rel_old hkr2).trans a2, fun k hk => (rel_old (by omega)).trans (a3 k hk), a4.trans (m3.below this (fun j e => by rw [e]; exact R2.out.1))⟩
  have J3 := hide (row_read w3 w.heap.size kr fr _ r3 hfl hfx)
  have F3 : Hid (∀ q, v9.ownBlock = some q → q ≠ kr) := fun q e => by have := f3 q e; omega
  have I3 := hide i3
  have R3 := hide r3
  generalize rel own2 w2 0 = own3 at *
  clear X2 R2 J2 m3 f3 i3 r3 hkr2
  go_wp2_with fail
  refine J3.out.mono ?_
  rintro e w4 ⟨v10, rfl, i4, f4, r4, m4⟩
  have X4 : Hid (Wx 0 w4 (rel own3 w3 0) gw vk gp gm gt 0 ks [] [] (fun _ => none) (fun _ => none) (fun _ => ([], [])) ∧ rel own3 w3 0 kr = 0 ∧ (∀ k, k < w.heap.size → rel own3 w3 0 k = 0) ∧ Below w.heap.size w w4) := by
    obtain ⟨a1, a2, a3, a4⟩ := X3.out
    have := a4.size
    exact ⟨a1.frame (L := 0) (.inl rfl) m4 (fun j _ e => .inl (by rw [e]; exact a2)), (rel_old R3.out.lt).trans a2, fun k hk => (rel_old (by omega)).trans (a3 k hk), a4.trans (m4.below this (fun j e => by rw [e]; exact R3.out.1))⟩
  have J4 : Hid (Calls Tryz.prog 64 #[.int .i64 200, v9, v10] w4 fun e w' => ∃ g, e = .returned (.tuple #[.pointer (some ⟨g, 0, none⟩), .int .i64 0]) ∧ Pl w' (fun k => w4.heap.size ≤ k) g 200 gs fr ∧ Below w4.heap.size w4 w') := by
    refine (from_any 200 v9 v10 (up gs) (up fr) w4 (Is.mv I3.out m4 (fun j e e2 => F3.out j e e2)) i4).mono ?_
    rintro e w5 ⟨hb5, ⟨-, hng⟩ | ⟨g, n, gs', fr', rfl, hn, e1, e2, hp⟩⟩
    · exact absurd hgood hng
    · obtain rfl := up_inj e1
      obtain rfl := up_inj e2
      have hn' : n = 200 := by omega
      subst hn'
      exact ⟨g, rfl, hp, hb5⟩
  have R4 := hide r4
  generalize rel own3 w3 0 = own4 at *
  clear X3 R3 J3 I3 F3 m4 f4 i4 r4 hgood
  go_wp2_with fail
  refine J4.out.mono ?_
  rintro e w5 ⟨gp', rfl, p5, b5⟩
  have c5 := (R4.out.later b5).cells.1
  obtain ⟨x6, m6⟩ := X4.out.1.newpool b5 p5
  have hwc := (X4.out.1.later b5).2.2.1
  have d1 : w5.cell? ⟨gw, 1, none⟩ = some (.pointer (some ⟨gp, 0, none⟩)) := hwc.cell.2.1
  have d2 : w5.frozen? ⟨gw, 1, none⟩ = false := frozen_of_row w5 gw 1 _ 109 hwc
  obtain ⟨w6, hw6⟩ : ∃ X, X = w5.setCell ⟨gw, 1, none⟩ (.pointer (some ⟨gp', 0, none⟩)) := ⟨_, rfl⟩
  rw [← hw6] at x6 m6
  have hgwk : own4 gw = 1 := X4.out.1.1.1
  have hkne : kr ≠ gw := fun e => by have := X4.out.2.1; rw [e, hgwk] at this; omega
  have hkr4 := R4.out.lt
  have X6 : Hid (Wx 0 w6 (rel own4 w4 3) gw vk gp' gm gt 0 ks gs fr (fun _ => none) (fun _ => none) (fun _ => ([], [])) ∧ rel own4 w4 3 kr = 0 ∧ (∀ k, k < w.heap.size → rel own4 w4 3 k = 0) ∧ Below w.heap.size w w6) := by
    obtain ⟨a1, a2, a3, a4⟩ := X4.out
    have := a4.size
    have := b5.size
    refine ⟨x6, (rel_old hkr4).trans a2, fun k hk => (rel_old (by omega)).trans (a3 k hk), (below_on a4 b5).trans (m6.below (by omega) (fun j e => ?_))⟩
    rw [e]
    exact Nat.le_of_not_lt (fun h => by have := a3 gw h; omega)
  have R6 : Hid (Rb w6 w.heap.size kr (onesB ks C ((allL gs fr).map ie))) := (R4.out.later b5).mv m6 (fun j e => by
    rw [e]
    refine ⟨Nat.le_of_not_lt (fun h => by have := X4.out.2.2.1 gw h; omega), fun e2 => hkne e2.symm⟩)
  have J6 := hide (all_any X6.out.1.pl)
  generalize rel own4 w4 3 = own6 at *
  clear X4 R4 J4 p5 b5 x6 m6 hwc hgwk hkne hkr4
  go_wp2_with fail
  rw [← hw6]
  clear hw6 c5 d1 d2
  refine J6.out.mono ?_
  rintro e w7 ⟨vl, rfl, o7, b7⟩
  have L7 : Hid (Lq w w7 (rel own6 w6 0) gw vk gp' gm gt kr 0 ks gs fr C vl) := by
    obtain ⟨a1, a2, a3, a4⟩ := X6.out
    have hz := a4.size
    refine ⟨⟨fun _ => none, fun _ => ([], []), ?_, ?_, ?_⟩, R6.out.later b7, (rel_old R6.out.lt).trans a2, own_lower o7 hz, fun k e => ⟨rel_new (o7.lt k e).1, fun e2 => ?_⟩, fun k hk => (rel_old (by omega)).trans (a3 k hk), below_on a4 b7⟩
    · rw [cr_zero]
      exact a1.later b7
    · rw [cr_zero]
      exact Wi.start _ _
    · rw [cr_zero]
      exact fun e s vals h => by cases h
    · have := (o7.lt k e).1
      have := R6.out.lt
      omega
  obtain ⟨n, hn⟩ : ∃ n, n = (allL gs fr).length := ⟨_, rfl⟩
  have HN := hide hn
  have ho7 : w7.ownsRow w6.heap.size 29 2 vl n (ec (allL gs fr)) := by rw [hn]; exact o7
  obtain ⟨al, cl, rfl⟩ := own_len ho7
  have hcap := own_cap ho7
  clear o7 ho7 b7 J6 X6 R6 hn
  go_wp2_with fail
  go_loopw [51] (fun v51 W => ∃ (i : Nat) (own' : Nat → Nat), i ≤ n ∧ v51 = .int .i64 (i : Int) ∧ Hid (Lq w W own' gw vk gp' gm gt kr i ks gs fr C (.slice al n cl))) (fun v51 _ => n - (intOf v51).toNat)
  case atStart => exact ⟨0, _, Nat.zero_le _, rfl, L7⟩
  case round =>
    clear L7
    obtain ⟨i, own', hin, rfl, HQ⟩ := hrel
    by_cases hi : i < n
    · have t1 : (i : Int) < (n : Int) := by omega
      have hia : i < (allL gs fr).length := by have := HN.out; omega
      have hro : wr.ownsRow w.heap.size 29 2 (.slice al n cl) n (ec (allL gs fr)) := by
        have := HQ.out.2.2.2.1
        rwa [← HN.out] at this
      obtain ⟨ga, ca, e', -, -⟩ := own_form hro (by omega)
      simp only [Value.slice.injEq] at e'
      obtain ⟨rfl, -, rfl⟩ := e'
      obtain ⟨ea, eb⟩ := ec_at (allL gs fr) i hia
      have e1 : wr.cell? ⟨ga, i * 2, none⟩ = some (.int .i64 ((allL gs fr)[i].1 : Int)) := by
        rw [hro.cellAt (i * 2) (by omega)]
        exact ea
      have e2 : wr.cell? ⟨ga, i * 2 + 1, none⟩ = some (.int .i64 ((allL gs fr)[i].2 : Int)) := by
        rw [hro.cellAt (i * 2 + 1) (by omega)]
        exact eb
      have JR : Hid (∀ W, Below wr.heap.size wr W → Calls Tryz.prog 66 #[.pointer (some ⟨gw, 0, none⟩), .pointer (some ⟨kr, 0, none⟩)] W fun e w1 => ∃ v, e = .returned v ∧ w1.cell? ⟨kr, 1, none⟩ = some (.bool false) ∧ Mv W w1 (fun j => j = kr) ∧
      Hid (Calls Tryz.prog 67 #[.pointer (some ⟨gw, 0, none⟩), .agg #[.int .i64 ((allL gs fr)[i].1 : Int), .int .i64 ((allL gs fr)[i].2 : Int)], v] w1 fun e w2 => e = .returned (.tuple #[]) ∧ ∃ own', Hid (Lq w w2 own' gw vk gp' gm gt kr (i + 1) ks gs fr C (.slice (some ⟨ga, 0, none⟩) n cl)))) := fun W hW => (HQ.out.later hW).read HC.out hia
      have hkw := HQ.out.2.1.lt
      generalize ((allL gs fr)[i].1 : Int) = x at *
      generalize ((allL gs fr)[i].2 : Int) = y at *
      clear ea eb hro
      go_wp2_with fail
      refine (JR.out _ (below_alloc wr _)).mono ?_
      rintro e w1 ⟨v57, rfl, c1, m1, H67⟩
      have hx1 : w1.heap[wr.heap.size]? = some (.cells #[.int .i64 x, .int .i64 y] 29 (0, 0)) := m1.at (heap_alloc_new wr _) (by omega)
      obtain ⟨p0, p1⟩ := kx_cells hx1 (Below.refl _ w1)
      obtain ⟨kx, hkx⟩ : ∃ k, k = wr.heap.size := ⟨_, rfl⟩
      rw [← hkx] at p0 p1 ⊢
      clear hx1 m1 JR HQ hkx e1 e2
      go_wp2_with fail
      refine H67.out.mono ?_
      rintro e w2 ⟨rfl, own2, HQ2⟩
      clear H67
      go_wp2_with fail
      go_roundw
      case rel => exact ⟨i + 1, own2, by omega, by go_num, HQ2⟩
      case measure => simp [intOf]; omega
    · obtain rfl : i = n := by omega
      have t1 : ¬ (i : Int) < (i : Int) := by omega
      have hq := HQ.out
      rw [HN.out] at hq
      have hd := hq.done HC.out
      have hb := hq.2.2.2.2.2.2
      have h0 := hq.2.2.2.2.2.1
      obtain ⟨-, vr, hr1, hr2, -⟩ := hq.2.1
      rw [List.drop_eq_nil_of_le (by simp)] at hr2
      obtain ⟨ar, cr, rfl, -⟩ := hr2
      have hlen : (onesB ks C []).length = 0 := rfl
      rw [hlen] at hr1
      have d0 : wr.cell? ⟨kr, 0, none⟩ = some (.slice ar 0 cr) := by rw [cell_of_row wr kr _ _ 126 (0, 0) hr1]; rfl
      have HD := hide hd
      have HB := hide hb
      have H0 := hide h0
      clear hq hd hb h0 hr1 hlen HQ HN
      go_wp2_with fail
      go_ret2
      exact ⟨gw, rfl, own', H0.out, HD.out, HB.out⟩
end Go.Proofs.YtafmiolehlagkaaGreat
