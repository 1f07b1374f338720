import Derived.Test.YtafmiolehlagkaaGreatPRuns
import Derived.Test.YtafmiolehlagkaaGreatWRows
import Derived.Test.YtafmiolehlagkaaGreatWMath
import Derived.Test.YtafmiolehlagkaaGreatWParts
import Derived.Test.YtafmiolehlagkaaGreatWDes
import Derived.Test.YtafmiolehlagkaaGreatWSpawn
namespace Go.Proofs.YtafmiolehlagkaaGreat.Pak
open Go.RowKit
set_option maxRecDepth 100000

theorem uvarint_zero : Lib.uvarint 0 = [0] := Lib.uvarint_small (by omega)

theorem row_head {w : World} {B : Nat} {v : Value} {l U : List UInt8} {f : Nat} (hf : f < 256)
    (h : w.ownsRow B 5 1 v (l.length + U.length + 1) (Lib.byteCells l ++ Lib.byteCells U ++ [Value.int .u8 (f : Int)])) :
    w.ownsRow B 5 1 v (l.length + U.length + 1) (Lib.byteCells (l ++ (U ++ [UInt8.ofNat f]))) := by
  have e : Lib.byteCells (l ++ (U ++ [UInt8.ofNat f])) = Lib.byteCells l ++ Lib.byteCells U ++ [Value.int .u8 (f : Int)] := by
    have hx : (UInt8.ofNat f).toNat = f := by simp [UInt8.toNat_ofNat']; omega
    simp [Lib.byteCells, hx]
  rw [e]
  exact h
theorem row_done {w : World} {B : Nat} {v : Value} {l U F : List UInt8} {f : UInt8}
    (h : w.ownsRow B 5 1 v (l.length + U.length + 1 + F.length) (Lib.byteCells (l ++ (U ++ [f])) ++ Lib.byteCells F)) :
    w.ownsRow B 5 1 v (l.length + (U ++ (f :: F)).length) (Lib.byteCells (l ++ (U ++ (f :: F)))) := by
  have e1 : l.length + (U ++ (f :: F)).length = l.length + U.length + 1 + F.length := by simp; omega
  have e2 : l ++ (U ++ (f :: F)) = (l ++ (U ++ [f])) ++ F := by simp
  rw [e1, e2, Lib.byteCells_append]
  exact h
theorem body_owned {w : World} {B m : Nat} {v : Value} {X F U : List UInt8}
    (h : w.ownsRow B 5 1 v (m + F.length + U.length) (Lib.byteCells X ++ Lib.byteCells F ++ Lib.byteCells U)) :
    w.ownsRow B 5 1 v (m + (F ++ U).length) (Lib.byteCells X ++ Lib.byteCells (F ++ U)) := by
  rw [List.length_append, ← Nat.add_assoc, Lib.byteCells_append, ← List.append_assoc]
  exact h
set_option maxHeartbeats 4000000 in
set_option maxRecDepth 100000 in
theorem putRow_some (v : Value) (l : List UInt8) (g o c : Nat) (zs : List Int) (w : World) (h : Bs w v l) (hpos : 0 < zs.length) (hz : Rw.AllFit zs) (hl : zs.length ≤ 1048576) (hc : Cells w g o zs) (hlim : l.length + 60000000 ≤ 140737488355328) :
    Calls Tryz.prog 51 #[v, .slice (some ⟨g, o, none⟩) zs.length c] w fun e w' => ∃ v', e = .returned v' ∧ w'.ownsRow w.heap.size 5 1 v' (l.length + (Rw.rowB zs).length) (Lib.byteCells (l ++ Rw.rowB zs)) ∧ Below w.heap.size w w' := by
  have hg : g < w.heap.size := World.block_lt_of_cell? w _ (hc 0 hpos)
  have hsf := shortest_any g o c zs w hz hl hc
  have hb2 := Rw.best_le zs
  have hfl := Rw.formB_length hz hl (Rw.best zs)
  have hul := Lib.uvarint_length64 (x := zs.length) (by omega)
  have hn := fun w => numberSize_any zs.length w (by omega)
  have E := hide (show Rw.rowB zs = Lib.uvarint zs.length ++ (UInt8.ofNat (Rw.best zs) :: Rw.formB zs (Rw.best zs)) by unfold Rw.rowB; rw [if_neg (by omega)])
  have HH := hide h
  have HZ := hide hz
  have HC := hide hc
  have h0 : ((zs.length : Int) == 0) = false := by rw [beq_eq_false_iff_ne]; omega
  clear h hz hc
  generalize hbf : Rw.best zs = f at *
  generalize hfb : Rw.formB zs f = F at *
  have HF := hide hfb
  clear hfb hbf
  generalize hU : Lib.uvarint zs.length = U at *
  have HU := hide hU
  clear hU
  go_enter Tryz.func51, Tryz.ntmps51
  go_wp2_with (first | (go_at_call 112; refine hsf.mono ?_; rintro e w1 ⟨rfl, hd⟩; have HD := hide hd; clear hd) | (go_at_call 115; refine (hn _).mono ?_; rintro e w2 ⟨rfl, rfl⟩))
  have hbs : Bs w2 v l := HH.out.below (below_drew (B := w.heap.size) HD.out) (Nat.le_refl _)
  have hsz : w2.heap.size = w.heap.size := by obtain ⟨d, rfl⟩ := HD.out; rfl
  have HS := hide hsz
  rw [show ((U.length : Int) + 1 + (F.length : Int)) = ((U.length + 1 + F.length : Nat) : Int) by omega]
  refine (withRoom_any v l (U.length + 1 + F.length) w2 hbs (by omega)).mono ?_
  rintro e w3 ⟨rfl, hrow, hb3⟩
  have hown := hrow.owns (B := w2.heap.size) (n := l.length) (Nat.le_refl _) (by simp) (by simp [maxLen]; omega)
  rw [List.take_left, List.length_append, List.length_replicate] at hown
  have ha := appendNumber_any w2.heap.size l.length zs.length (by omega) _ _ w3 hown hb3.size (by omega)
  rw [HU.out] at ha
  have HA := hide ha
  have HB3 := hide hb3
  clear ha hown hrow hb3 hsz hbs hsf
  go_wp2_with fail
  refine HA.out.mono ?_
  rintro e w4 ⟨v4, rfl, hown4, hb4⟩
  have HB4 := hide (HB3.out.trans hb4)
  have hs4 := (HB3.out.trans hb4).size
  clear hb4 HA HB3
  obtain ⟨i0, hi, hz0, hz1, hz2⟩ := info_parts info5
  go_wp2_with (at_builtin; refine wpList_append_own _ rfl _ _ 51 rfl w2.heap.size 5 i0 (.int .u8 0) 1 1 Tryz.underlying51 hi hz0 hz1 hz2 rfl (by decide) _ _ _ rfl (hown4.alloc _) ⟨w4.heap.size, 0, none⟩ 1 1 [Value.int .u8 (f : Int)] rfl rfl ?c1 ?c2 ?c3 ?c4 ?c5 ?_)
  case c1 => first | exact cell_one_new _ _ _ | (intro j u hj; match j, hj with | 0, hj => simp at hj; subst hj; simp [Addr.add])
  case c2 => intro u hu; simp at hu; subst hu; rfl
  case c3 => unfold maxLen; omega
  case c4 => omega
  case c5 => simp; omega
  intro v5 w5 hown5 hgrow _
  have hb5 : Below w2.heap.size w2 w5 := (HB4.out.alloc hs4 _).grown hgrow (by simp; omega) (fun k hk => (hown4.lt k hk).1)
  rw [← List.append_assoc] at hown5
  have hown6 := row_head (U := U) (f := f) (by omega) hown5
  have HO := hide hown6
  have HB := hide ((below_drew (B := w2.heap.size) HD.out).trans hb5)
  have hs5 := hb5.size
  clear hown4 hown5 hown6 hgrow hb5 HB4
  have hg2 : g < w2.heap.size := by rw [HS.out]; exact hg
  by_cases hf2 : f = 2
  · subst hf2
    have hr := appendRuns_any w2.heap.size _ g o c zs v5 _ w5 HZ.out hl (cells_below HC.out HB.out hg2) hg2 HO.out hs5 (by omega)
    have e : Rw.runsB zs = F := HF.out
    rw [e] at hr
    clear e
    have HR := hide hr
    clear hr
    go_wp2_with fail
    refine HR.out.mono ?_
    rintro e w6 ⟨v6, rfl, hown7, hb7⟩
    have HO7 := hide hown7
    have HB7 := hide (HB.out.trans hb7)
    clear hown7 hb7 HR
    go_wp2
    go_ret
    refine ⟨v6, rfl, ?_, HS.out ▸ HB7.out⟩
    rw [E.out, ← HS.out]
    exact row_done HO7.out
  · have hf2' : ((f : Int) == 2) = false := by rw [beq_eq_false_iff_ne]; omega
    have e : F = Rw.bodyTo zs f zs.length := by rw [← HF.out]; unfold Rw.formB; rw [if_neg hf2]
    have HE := hide e
    clear e
    go_wp2
    go_loopw [8, 44] (fun v i wr => ∃ k : Nat, k ≤ zs.length ∧ i = .int .i64 k ∧ wr.ownsRow w2.heap.size 5 1 v (l.length + U.length + 1 + (Rw.bodyTo zs f k).length) (Lib.byteCells (l ++ (U ++ [UInt8.ofNat f])) ++ Lib.byteCells (Rw.bodyTo zs f k)) ∧ Below w2.heap.size w wr ∧ w2.heap.size ≤ wr.heap.size) (fun _ i _ => zs.length - (intOf i).toNat)
    case atStart => exact ⟨0, Nat.zero_le _, rfl, by simpa [Rw.bodyTo, Lib.byteCells] using HO.out, HB.out, hs5⟩
    case round =>
      obtain ⟨k, hk, rfl, ho, hb, hsr⟩ := hrel
      have HO8 := hide ho
      have HB8 := hide hb
      clear ho hb
      have b1 := Rw.bodyTo_length HZ.out f k
      by_cases hlt : k < zs.length
      · have hce := entry_any g o c k f zs wr hlt (by omega) (by omega) (cells_below HC.out HB8.out hg2)
        have hfit := Rw.entry_fits HZ.out k f
        have hbd := hide (show Rw.bodyTo zs f (k + 1) = Rw.bodyTo zs f k ++ Lib.uvarint (Lib.zigzag (Rw.entry zs k f)) from rfl)
        generalize Rw.entry zs k f = x at *
        have hfo := fun w => fold_any x w hfit.1 hfit.2
        go_wp2_with (first | (go_at_call 118; refine hce.mono ?_; rintro e w7 ⟨rfl, hd⟩; have HD7 := hide hd; clear hd) | (go_at_call 117; refine (hfo _).mono ?_; rintro e w8 ⟨rfl, rfl⟩))
        refine (appendNumber_any w2.heap.size _ (Lib.zigzag x) (Lib.zigzag_lt hfit.1 hfit.2) _ _ _ (owns_drew HO8.out HD7.out) (Nat.le_trans hsr (below_drew (B := 0) HD7.out).size) (by omega)).mono ?_
        rintro e w9 ⟨v9, rfl, hown9, hb9⟩
        have HO9 := hide hown9
        have HB9 := hide ((HB8.out.trans (below_drew HD7.out)).trans hb9)
        have hs9 := Nat.le_trans (Nat.le_trans hsr (below_drew (B := 0) HD7.out).size) hb9.size
        clear hown9 hb9
        go_wp2
        refine ⟨⟨k + 1, by omega, by go_num, ?_, HB9.out, hs9⟩, by simp [intOf]; omega⟩
        rw [hbd.out]
        exact body_owned HO9.out
      · obtain rfl : k = zs.length := by omega
        go_wp2
        go_ret
        refine ⟨_, rfl, ?_, HS.out ▸ HB8.out⟩
        rw [E.out, ← HS.out, HE.out]
        exact row_done HO8.out

set_option maxHeartbeats 1000000 in
set_option maxRecDepth 100000 in
theorem putRow_none (v : Value) (l : List UInt8) (ao : Option Addr) (c : Nat) (w : World) (h : Bs w v l) (hlim : l.length + 60000000 ≤ 140737488355328) :
    Calls Tryz.prog 51 #[v, .slice ao 0 c] w fun e w' => ∃ v', e = .returned v' ∧ w'.ownsRow w.heap.size 5 1 v' (l.length + (Rw.rowB []).length) (Lib.byteCells (l ++ Rw.rowB [])) ∧ Below w.heap.size w w' := by
  have hp := put_any v l 0 w h (by omega) (by omega)
  rw [uvarint_zero] at hp
  have hp' : Calls Tryz.prog 111 #[v, .int .u64 0] w fun e w' => ∃ v', e = .returned v' ∧ w'.ownsRow w.heap.size 5 1 v' (l.length + 1) (Lib.byteCells (l ++ [0])) ∧ Below w.heap.size w w' := hp
  have H := hide hp'
  clear hp hp' h
  go_enter Tryz.func51, Tryz.ntmps51
  go_wp2_with (go_at_call 111; refine H.out.mono ?_; rintro e w1 ⟨v2, rfl, hown, hb1⟩)
  go_ret
  exact ⟨v2, rfl, hown, hb1⟩

/-- PutRow. -/
theorem putRow_any (v vl : Value) (l : List UInt8) (zs : List Int) (w : World) (h : Bs w v l) (hn : Ns w vl zs) (hz : Rw.AllFit zs) (hl : zs.length ≤ 1048576) (hlim : l.length + 60000000 ≤ 140737488355328) :
    Calls Tryz.prog 51 #[v, vl] w fun e w' => ∃ v', e = .returned v' ∧ w'.ownsRow w.heap.size 5 1 v' (l.length + (Rw.rowB zs).length) (Lib.byteCells (l ++ Rw.rowB zs)) ∧ Below w.heap.size w w' := by
  rcases hn.parts with ⟨ao, c, rfl, rfl⟩ | ⟨g, o, c, rfl, hpos, _, _, hc⟩
  · exact putRow_none v l ao c w h hlim
  · exact putRow_some v l g o c zs w h hpos hz hl hc hlim
end Go.Proofs.YtafmiolehlagkaaGreat.Pak

/-
  World: a pool's numbers as those of a row.
-/
namespace Go.Proofs.YtafmiolehlagkaaGreat
open Go.RowKit
set_option maxRecDepth 100000
def zi (gs : List Nat) : List Int := gs.map fun n : Nat => (n : Int)
theorem zi_len (gs : List Nat) : (zi gs).length = gs.length := by simp [zi]
theorem own_ns {w : World} {v : Value} {B : Nat} {l : List Int} (h : w.ownsRow B 2 1 v l.length (zc l)) : Pak.Ns w v l := by
  rcases h.2 with ⟨rfl, hl⟩ | ⟨g, c, cur, rfl, -, hg, h1, h2, hcs, htake⟩
  · obtain rfl := List.eq_nil_of_length_eq_zero hl
    exact ⟨none, 0, rfl, Nat.le_refl _, Nat.zero_le _, fun j hj => absurd hj (by simp)⟩
  · refine ⟨_, c, rfl, h1, h2, fun j hj => ⟨g, 0, rfl, ?_⟩⟩
    rw [Nat.zero_add, h.cellAt j (by omega), zc_at l j hj]
    simp [hj]
set_option maxHeartbeats 2000000 in
theorem wide_any {w : World} {v : Value} {B : Nat} {gs : List Nat} (h : w.ownsRow B 3 1 v gs.length (ic gs)) (hl : gs.length ≤ 1000000) :
    Calls Tryz.prog 52 #[v] w fun e w' => ∃ v', e = .returned v' ∧ w'.ownsRow w.heap.size 2 1 v' gs.length (zc (zi gs)) ∧ Below w.heap.size w w' := by
  obtain ⟨i0, hi0, hz0, hz1, hz2⟩ := info_parts info2
  obtain ⟨ao, c, rfl⟩ := own_len h
  have hcap := own_cap h
  have H := hide h
  clear h
  go_enter Tryz.func52, Tryz.ntmps52
  go_wp2_with (at_make; refine wpList_make_full _ rfl _ _ 30 rfl w.heap.size 2 i0 (.int .i64 0) 1 Tryz.underlying30 hi0 hz0 hz1 .i64 .i64 _ _ gs.length rfl rfl ?c1 ?c2 ?c3 ?c4 ?c5 ?_)
  case c1 => omega
  case c2 => omega
  case c3 => rw [hz2]; omega
  case c4 => unfold maxLen; omega
  case c5 => omega
  intro w1 hown hgrow
  rw [toList_madeCells_one] at hown
  have HB1 : Hid (Below w.heap.size w w1) := (Below.refl _ _).grown hgrow (Nat.le_refl _) (by intro k hk; cases hk)
  have HO1 : Hid (w1.ownsRow w.heap.size 2 1 (.slice (some ⟨w.heap.size, 0, none⟩) gs.length gs.length) gs.length (zc ((zi gs).take 0 ++ List.replicate (gs.length - 0) 0))) := by
    have e : zc ((zi gs).take 0 ++ List.replicate (gs.length - 0) 0) = List.replicate gs.length (.int .i64 0) := by simp [zc]
    rw [e]
    exact hown
  clear hown hgrow
  obtain ⟨ko, hko⟩ : ∃ k, k = w.heap.size := ⟨_, rfl⟩
  rw [← hko] at HO1 ⊢
  have HK : Hid (w.heap.size ≤ ko) := by unfold Hid; omega
  rw [hko] at HO1
  rw [show (Value.slice (some ⟨w.heap.size, 0, none⟩) gs.length gs.length) = .slice (some ⟨ko, 0, none⟩) gs.length gs.length by rw [hko]] at HO1
  clear hko
  go_wp2_with fail
  go_loopw [11] (fun v11 W => ∃ j : Nat, j ≤ gs.length ∧ v11 = .int .i64 (j : Int) ∧ Hid (W.ownsRow w.heap.size 2 1 (.slice (some ⟨ko, 0, none⟩) gs.length gs.length) gs.length (zc ((zi gs).take j ++ List.replicate (gs.length - j) 0))) ∧ Hid (Below w.heap.size w W)) (fun v11 _ => gs.length - (intOf v11).toNat)
  case atStart => exact ⟨0, Nat.zero_le _, rfl, HO1, HB1⟩
  case round =>
    obtain ⟨j, hjl, rfl, HR, HB⟩ := hrel
    by_cases hj : j < gs.length
    · have t1 : (j : Int) < (gs.length : Int) := by omega
      obtain ⟨g, c', e', -, -⟩ := own_form H.out (by omega)
      simp only [Value.slice.injEq] at e'
      obtain ⟨rfl, -, rfl⟩ := e'
      have e1 := own_int (own_later H.out HB.out) j hj
      have eo : wr.cell? ⟨ko, j, none⟩ = some (.int .i64 0) := by
        rw [HR.out.cellAt j (by omega)]
        exact fill_at _ _ _ (zi_len _) hj
      have ef := HR.out.frozenAt j
      have hx : (zi gs)[j]? = some ((gs[j] : Nat) : Int) := by simp [zi, hj]
      have hst := (HR.out.stored j (.int .i64 ((gs[j] : Nat) : Int))).1
      rw [zc_set, fill_set _ _ _ _ (zi_len _) hj hx] at hst
      generalize ((gs[j] : Nat) : Int) = x at *
      have HST := hide hst
      have HB2 : Hid (Below w.heap.size w (wr.setCell ⟨ko, j, none⟩ (.int .i64 x))) := below_set HB.out HK.out
      clear hst hx
      go_wp2_with fail
      go_roundw
      case rel => exact ⟨j + 1, by omega, by go_num, HST, HB2⟩
      case measure => simp [intOf]; omega
    · obtain rfl : j = gs.length := by omega
      have t1 : ¬ (gs.length : Int) < (gs.length : Int) := by omega
      have hfin : (zc ((zi gs).take gs.length ++ List.replicate (gs.length - gs.length) 0)) = zc (zi gs) := by
        rw [List.take_of_length_le (by rw [zi_len]; exact Nat.le_refl _)]
        simp
      have hr := HR.out
      rw [hfin] at hr
      have HRF := hide hr
      clear hr hfin HR
      go_wp2_with fail
      go_ret
      exact ⟨_, rfl, HRF.out, HB.out⟩
end Go.Proofs.YtafmiolehlagkaaGreat

/-
  World: what Snapshot writes of one.
-/
namespace Go.Proofs.YtafmiolehlagkaaGreat
open Go.RowKit
set_option maxRecDepth 100000
/-- What is written of parts. -/
def valB (l : List Int) : List UInt8 := l.flatMap Pak.Rw.ivar
def wrB (s : Nat) (R : List (Nat × List Int)) : List UInt8 := Lib.uvarint s ++ R.flatMap (fun r => valB r.2)
theorem bs_own {w : World} {v : Value} {B n : Nat} {l : List UInt8} (h : w.ownsRow B 5 1 v n (Lib.byteCells l)) (hn : n = l.length) : Pak.Bs w v l := by
  subst hn
  rcases h.2 with ⟨rfl, hl⟩ | ⟨g, c, cur, rfl, -, hg, h1, h2, hcs, htake⟩
  · obtain rfl := List.eq_nil_of_length_eq_zero hl
    exact Pak.Bs.nil w
  · refine ⟨_, c, rfl, h1, h2, fun j hj => ⟨g, 0, rfl, ?_⟩⟩
    rw [Nat.zero_add, h.cellAt j (by omega)]
    simp [Lib.byteCells, hj]
theorem own_slice {w : World} {B e s n : Nat} {v : Value} {xs : List Value} (h : w.ownsRow B e s v n xs) : ∃ a m c, v = .slice a m c := by
  obtain ⟨a, c, e⟩ := own_len h
  exact ⟨a, n, c, e⟩
theorem val_len {l : List Int} (h : Pak.Rw.AllFit l) : (valB l).length ≤ 10 * l.length := by
  induction l with
  | nil => simp [valB]
  | cons z t ih =>
    have h1 := Pak.Rw.ivar_length (h z (by simp))
    have h2 := ih (fun x hx => h x (List.mem_cons_of_mem _ hx))
    simp only [valB, List.flatMap_cons, List.length_append, List.length_cons] at h2 ⊢
    omega
theorem val_push (l : List Int) (i : Nat) (hi : i < l.length) : valB (l.take (i + 1)) = valB (l.take i) ++ Pak.Rw.ivar l[i] := by
  rw [List.take_succ_eq_append_getElem hi, valB, List.flatMap_append, List.flatMap_singleton]
  rfl
theorem fm_push (R : List (Nat × List Int)) (i : Nat) (hi : i < R.length) : (R.take (i + 1)).flatMap (fun r => valB r.2) = (R.take i).flatMap (fun r => valB r.2) ++ valB R[i].2 := by
  rw [List.take_succ_eq_append_getElem hi, List.flatMap_append, List.flatMap_singleton]
theorem flat_len {R : List (Nat × List Int)} (h : ∀ r ∈ R, Pak.Rw.AllFit r.2 ∧ r.2.length ≤ 100) : (R.flatMap (fun r => valB r.2)).length ≤ 1000 * R.length := by
  induction R with
  | nil => simp
  | cons r t ih =>
    have h1 := val_len (h r (by simp)).1
    have h2 := (h r (by simp)).2
    have h3 := ih (fun x hx => h x (List.mem_cons_of_mem _ hx))
    simp only [List.flatMap_cons, List.length_append, List.length_cons] at h3 ⊢
    omega
theorem wr_len {s : Nat} (hs : s < 8192) {R : List (Nat × List Int)} (h : ∀ r ∈ R, Pak.Rw.AllFit r.2 ∧ r.2.length ≤ 100) : (wrB s R).length ≤ 10 + 1000 * R.length := by
  have h1 := flat_len h
  have h2 := Lib.uvarint_length64 (show s < 18446744073709551616 by omega)
  unfold wrB
  rw [List.length_append]
  omega
section
variable {w w' : World} {own : Nat → Nat} {gw gp gm gt M M' : Nat} {vk : Value} {ks : List Kind} {gs fr gs' fr' : List Nat} {f f' : Int × Int → Option Nat} {q q' : Nat → Option Nat} {T T' : Nat → Ts}
set_option maxHeartbeats 8000000 in
theorem written_any (h : Wx 0 w own gw vk gp gm gt M ks gs fr f q T) (a b : Int) (hib : InB (a, b)) (s : Nat) (hf : f (a, b) = some s) (hs : s < 8192) (B : Nat) (ap : Option Addr) (np cp : Nat) (L : List Pt) (R : List (Nat × List Int)) (hL : w.ownsRow B 32 2 (.slice ap np cp) L.length (pz L)) (hP : Pv B w L R) (hfit : ∀ r ∈ R, Pak.Rw.AllFit r.2 ∧ r.2.length ≤ 100) (hn : R.length ≤ 100) :
    Calls Tryz.prog 53 #[.pointer (some ⟨gw, 0, none⟩), .agg #[.int .i64 a, .int .i64 b, .slice ap np cp]] w fun e w' => ∃ v, e = .returned v ∧ w'.ownsRow w.heap.size 5 1 v (wrB s R).length (Lib.byteCells (wrB s R)) ∧ Below w.heap.size w w' := by
  obtain rfl : np = L.length := by
    obtain ⟨x, y, e⟩ := own_len hL
    simp only [Value.slice.injEq] at e
    exact e.2.1
  have hcp := own_cap hL
  obtain ⟨w1, hw1⟩ : ∃ X, X = w.alloc (.cells #[.int .i64 a, .int .i64 b, .slice ap L.length cp] 87) := ⟨_, rfl⟩
  have B1 : Hid (Below w.heap.size w w1) := hw1 ▸ below_alloc w _
  have hx1 : w1.heap[w.heap.size]? = some (.cells #[.int .i64 a, .int .i64 b, .slice ap L.length cp] 87 (0, 0)) := by rw [hw1]; exact heap_alloc_new w _
  have HW : Hid (∀ W, Below w1.heap.size w1 W → (Instr.lookup 106 (.map (some gm)) (.agg #[.int .i64 a, .int .i64 b]) false).run Tryz.prog W = .ok (.int .i64 (s : Int)) W ∧ W.cell? ⟨gw, 2, none⟩ = some (.map (some gm)) ∧ W.cell? ⟨w.heap.size, 0, none⟩ = some (.int .i64 a) ∧ W.cell? ⟨w.heap.size, 1, none⟩ = some (.int .i64 b) ∧ W.cell? ⟨w.heap.size, 2, none⟩ = some (.slice ap L.length cp)) := fun W hW => by
    have hx := h.later (below_on B1.out hW)
    have h5 := (hW.block _ (lt_of_block hx1)).trans hx1
    refine ⟨hx.mp.look1 a b hib hf, hx.cells.2.2.1, ?_, ?_, ?_⟩ <;> rw [cell_of_row W _ _ _ 87 (0, 0) h5] <;> rfl
  have hu : IntKind.u64.wrap (s : Int) = (s : Int) := by rw [IntKind.wrap_u64]; omega
  have J2 := hide (Pak.put_any (.slice none 0 0) [] s w1.drew (Pak.Bs.nil _) (by omega) (by simp))
  have HL := hide hL
  have HP := hide hP
  have HF := hide hfit
  clear h hf hx1 hL hP hfit
  go_enter Tryz.func53, Tryz.ntmps53
  go_upto_region 1 with fail
  rw [← hw1]
  obtain ⟨kx, hkx⟩ : ∃ k, k = w.heap.size := ⟨_, rfl⟩
  rw [← hkx] at HW ⊢
  clear hkx hw1
  obtain ⟨hlk, c2, p0, p1, p2⟩ := HW.out w1.drew (below_drew w1)
  refine wp_region_noPanic ?_
  refine wp_region_late (J := fun i => i != 99) (S := fun W => W.cell? ⟨gw, 2, none⟩ = some (.map (some gm)) ∧ W.cell? ⟨kx, 0, none⟩ = some (.int .i64 a) ∧ W.cell? ⟨kx, 1, none⟩ = some (.int .i64 b)) (by kernel_rfl) ⟨c2, p0, p1⟩ (fun hHeld => ?_)
  refine' wpAnyJ_takeW (i := 0) (oi := { dst := some 10, op := Op.move (Operand.tmp 0), type := 37, pos := "snapshot.go:49", after := #[], guard := none }) (v := _) rfl (by kernel_rfl) (by kernel_rfl) (by kernel_rfl) (fun _ _ _ h => h) (Or.inl ⟨by rfl, ?hyA1⟩) ?reA1
  case hyA1 => (intro W hSw; (try dsimp only at hSw); go_simp; try with_reducible rfl)
  try simp only [Act.put, List.setIfInBounds_toArray, List.set_cons_zero, List.set_cons_succ]
  refine' wpAnyJ_takeW (i := 1) (oi := { dst := some 11, op := Op.nilCheck (Operand.tmp 10), type := 0, pos := "snapshot.go:49", after := #[{ on := 0, ground := Ground.data }], guard := none }) (v := _) rfl (by kernel_rfl) (by kernel_rfl) (by kernel_rfl) (fun _ _ _ h => h) (Or.inl ⟨by rfl, ?hyA2⟩) ?reA2
  case hyA2 => (intro W hSw; (try dsimp only at hSw); go_simp; try with_reducible rfl)
  try simp only [Act.put, List.setIfInBounds_toArray, List.set_cons_zero, List.set_cons_succ]
  refine' wpAnyJ_takeW (i := 2) (oi := { dst := some 12, op := Op.fieldAddr 109 (Operand.tmp 11) 2, type := 0, pos := "snapshot.go:49", after := #[{ on := 1, ground := Ground.data }], guard := none }) (v := _) rfl (by kernel_rfl) (by kernel_rfl) (by kernel_rfl) (fun _ _ _ h => h) (Or.inl ⟨by rfl, ?hyA3⟩) ?reA3
  case hyA3 => (intro W hSw; (try dsimp only at hSw); go_simp; try with_reducible rfl)
  try simp only [Act.put, List.setIfInBounds_toArray, List.set_cons_zero, List.set_cons_succ]
  refine' wpAnyJ_take (i := 3) (oi := { dst := some 13, op := Op.load 106 (Operand.tmp 12), type := 106, pos := "snapshot.go:49", after := #[{ on := 2, ground := Ground.data }], guard := none }) (v := _) rfl (by kernel_rfl) (by kernel_rfl) (by kernel_rfl) (by kernel_rfl) (fun _ _ _ h => h) (Or.inl ⟨by rfl, ?hyA4⟩) (by assumption) ?reA4
  case hyA4 => (intro W hSw; (try dsimp only at hSw); go_simp; try with_reducible rfl)
  try simp only [Act.put, List.setIfInBounds_toArray, List.set_cons_zero, List.set_cons_succ]
  refine' wpAnyJ_takeW (i := 4) (oi := { dst := some 14, op := Op.fieldAddr 87 (Operand.tmp 3) 0, type := 0, pos := "snapshot.go:49", after := #[], guard := none }) (v := _) rfl (by kernel_rfl) (by kernel_rfl) (by kernel_rfl) (fun _ _ _ h => h) (Or.inl ⟨by rfl, ?hyA5⟩) ?reA5
  case hyA5 => (intro W hSw; (try dsimp only at hSw); go_simp; try with_reducible rfl)
  try simp only [Act.put, List.setIfInBounds_toArray, List.set_cons_zero, List.set_cons_succ]
  refine' wpAnyJ_take (i := 5) (oi := { dst := some 15, op := Op.load 29 (Operand.tmp 14), type := 29, pos := "snapshot.go:49", after := #[{ on := 4, ground := Ground.data }], guard := none }) (v := _) rfl (by kernel_rfl) (by kernel_rfl) (by kernel_rfl) (by kernel_rfl) (fun _ _ _ h => h) (Or.inl ⟨by rfl, ?hyA6⟩) (by assumption) ?reA6
  case hyA6 => (intro W hSw; (try dsimp only at hSw); go_simp; try with_reducible rfl)
  try simp only [Act.put, List.setIfInBounds_toArray, List.set_cons_zero, List.set_cons_succ]
  refine wpAnyJ_ready (rs := [6]) (by kernel_rfl) (by simp) ?_
  refine AllReadyJ.cons (o := { dst := some 16, op := Op.lookup 106 (Operand.tmp 13) (Operand.tmp 15) false, type := 3, pos := "snapshot.go:49", after := #[{ on := 3, ground := Ground.data }, { on := 5, ground := Ground.data }], guard := none }) rfl (fun K hK => ?_) AllReadyJ.nil
  go_simp
  refine hK.out _ _ (fun _ _ => ⟨c2, p0, p1⟩) ?_
  clear hK K
  try simp only [Act.put, List.setIfInBounds_toArray, List.set_cons_zero, List.set_cons_succ]
  refine' wpAnyJ_takeW (i := 7) (oi := { dst := some 17, op := Op.convert 3 165 (Operand.tmp 16), type := 165, pos := "snapshot.go:49", after := #[{ on := 6, ground := Ground.data }], guard := none }) (v := _) rfl (by kernel_rfl) (by kernel_rfl) (by kernel_rfl) (fun _ _ _ h => h) (Or.inl ⟨by rfl, ?hyA7⟩) ?reA7
  case hyA7 => (intro W hSw; (try dsimp only at hSw); go_simp; try with_reducible rfl)
  try simp only [Act.put, List.setIfInBounds_toArray, List.set_cons_zero, List.set_cons_succ]
  refine wpAnyJ_ready (rs := [8]) (by kernel_rfl) (by simp) ?_
  refine AllReadyJ.cons (o := { dst := some 18, op := Op.call { callee := Callee.value (Operand.func 111), args := #[Operand.const (Value.slice none 0 0), Operand.tmp 17], argTypes := #[51, 165] }, type := 51, pos := "snapshot.go:49", after := #[{ on := 7, ground := Ground.data }], guard := none }) rfl (fun K hK => ?_) AllReadyJ.nil
  go_simp
  go_at_call 111
  refine J2.out.mono ?_
  rintro e w5 ⟨v5, rfl, ho5, hb5⟩
  have HB5 := hide (below_on (below_drew w1) hb5)
  obtain ⟨-, y2, y3, y4, y5⟩ := HW.out w5 HB5.out
  obtain ⟨a5, n5, c5, rfl⟩ := own_slice ho5
  have HO5 : Hid (w5.ownsRow w.heap.size 5 1 (.slice a5 n5 c5) (wrB s (R.take 0)).length (Lib.byteCells (wrB s (R.take 0)))) := by
      have := own_lower ho5 (show w.heap.size ≤ w1.drew.heap.size from B1.out.size)
      unfold Hid
      simpa [wrB] using this
  clear ho5 hb5
  go_simp
  refine hK.out _ _ (fun _ _ => ⟨y2, y3, y4⟩) ?_
  clear hK K J2
  try simp only [Act.put, List.setIfInBounds_toArray, List.set_cons_zero, List.set_cons_succ]
  refine' wpAnyJ_takeW (i := 9) (oi := { dst := some 5, op := Op.assign (Operand.tmp 18), type := 51, pos := "snapshot.go:49", after := #[{ on := 8, ground := Ground.data }, { on := 8, ground := Ground.chain }, { on := 0, ground := Ground.phase }, { on := 1, ground := Ground.phase }, { on := 2, ground := Ground.phase }, { on := 3, ground := Ground.phase }, { on := 4, ground := Ground.phase }, { on := 5, ground := Ground.phase }, { on := 6, ground := Ground.phase }, { on := 7, ground := Ground.phase }, { on := 8, ground := Ground.phase }], guard := none }) (v := _) rfl (by kernel_rfl) (by kernel_rfl) (by kernel_rfl) (fun _ _ _ h => h) (Or.inl ⟨by rfl, ?hyA8⟩) ?reA8
  case hyA8 => (intro W hSw; (try dsimp only at hSw); go_simp; try with_reducible rfl)
  try simp only [Act.put, List.setIfInBounds_toArray, List.set_cons_zero, List.set_cons_succ]
  refine wpAnyJ_done (by kernel_rfl) ?_ _
  refine NoPanic.normal ?_
  clear hlk c2 p0 p1 p2 y2 y3 y4
  have XL : Hid (∀ W, Below w1.heap.size w1 W → W.ownsRow B 32 2 (.slice ap L.length cp) L.length (pz L) ∧ Pv B W L R) := fun W hW => ⟨own_later HL.out (below_on B1.out hW), HP.out.later (below_on B1.out hW)⟩
  have hLR : L.length = R.length := HP.out.1
  have HLR := hide hLR
  clear hLR HL HP hu hib
  go_wp2_with fail
  clear y5
  go_loopw [5, 22] (fun v5 v22 W => ∃ i : Nat, i ≤ L.length ∧ v22 = .int .i64 (i : Int) ∧ Hid (W.ownsRow w.heap.size 5 1 v5 (wrB s (R.take i)).length (Lib.byteCells (wrB s (R.take i)))) ∧ Hid (Below w1.heap.size w1 W)) (fun _ v22 _ => L.length - (intOf v22).toNat)
  case atStart => exact ⟨0, Nat.zero_le _, rfl, HO5, HB5⟩
  case round =>
    obtain ⟨i, hil, rfl, HO, HB⟩ := hrel
    obtain ⟨wo, rfl⟩ : ∃ X, X = wr := ⟨wr, rfl⟩
    by_cases hlt : i < L.length
    · have t1 : (i : Int) < (L.length : Int) := by omega
      have hRi : i < R.length := by have := HLR.out; omega
      obtain ⟨hl1, hl2⟩ := XL.out wo HB.out
      obtain ⟨g, c', e', -, -⟩ := own_form hl1 (by omega)
      simp only [Value.slice.injEq] at e'
      obtain ⟨rfl, -, rfl⟩ := e'
      obtain ⟨e1, e2⟩ := own_part hl1 i hlt
      obtain ⟨k1, k2⟩ := hl2.2 i hlt hRi
      have hfi := HF.out _ (List.getElem_mem hRi)
      have hfp := fm_push R i hRi
      have hlen : (wrB s (R.take i)).length ≤ 10 + 1000 * 100 := by
        have := wr_len hs (R := R.take i) (fun r hr => HF.out r (List.mem_of_mem_take hr))
        have : (R.take i).length ≤ 100 := by rw [List.length_take]; omega
        omega
      have HNX : Hid (wrB s (R.take (i + 1)) = wrB s (R.take i) ++ valB R[i].2) := by
        unfold wrB Hid
        rw [hfp, List.append_assoc]
      generalize wrB s (R.take i) = b0 at *
      generalize R[i].2 = vs at *
      generalize L[i] = p at *
      obtain ⟨kd, av, nv, cv⟩ := p
      obtain ⟨x1, x2, x3⟩ := own_len k2
      simp only [ptV, Value.slice.injEq] at x3
      obtain ⟨rfl, rfl, rfl⟩ := x3
      simp only [ptV] at e1 e2 k2
      have hcv := own_cap k2
      have HV := hide k2
      have HFI := hide hfi
      have hvl : vs.length ≤ 100 := hfi.2
      obtain ⟨a0, n0, c0, rfl⟩ := own_slice HO.out
      obtain ⟨wp, hwp⟩ : ∃ X, X = wo.alloc (.cells #[.int .i64 kd, .slice av vs.length cv] 32) := ⟨_, rfl⟩
      have BP : Hid (Below wo.heap.size wo wp) := hwp ▸ below_alloc wo _
      have HOP : Hid (wp.ownsRow w.heap.size 5 1 (.slice a0 n0 c0) (b0 ++ valB (vs.take 0)).length (Lib.byteCells (b0 ++ valB (vs.take 0)))) := by
        have := own_later HO.out BP.out
        unfold Hid
        simpa [valB] using this
      clear hl1 hl2 k1 k2 hfi hfp HO
      go_wp2_with fail
      rw [← hwp]
      clear hwp e1 e2
      go_loopw [5, 29] (fun v5 v29 W => ∃ j : Nat, j ≤ vs.length ∧ v29 = .int .i64 (j : Int) ∧ Hid (W.ownsRow w.heap.size 5 1 v5 (b0 ++ valB (vs.take j)).length (Lib.byteCells (b0 ++ valB (vs.take j)))) ∧ Hid (Below wo.heap.size wo W)) (fun _ v29 _ => vs.length - (intOf v29).toNat)
      case atStart => exact ⟨0, Nat.zero_le _, rfl, HOP, BP⟩
      case round =>
        obtain ⟨j, hjl, rfl, HOJ, HBJ⟩ := hrel
        by_cases hj : j < vs.length
        · have t2 : (j : Int) < (vs.length : Int) := by omega
          obtain ⟨gv, c'', e'', -, -⟩ := own_form HV.out (by omega)
          simp only [Value.slice.injEq] at e''
          obtain ⟨rfl, -, rfl⟩ := e''
          have e3 := own_num (own_later HV.out HBJ.out) j hj
          have hfz := HFI.out.1 _ (List.getElem_mem hj)
          have hpush := val_push vs j hj
          have hln : (b0 ++ valB (vs.take j)).length + 20 ≤ 140737488355328 := by
            have := val_len (l := vs.take j) (fun z hz => HFI.out.1 z (List.mem_of_mem_take hz))
            have : (vs.take j).length ≤ 100 := by rw [List.length_take]; omega
            rw [List.length_append]
            omega
          generalize vs[j] = z at *
          have HPU : Hid (b0 ++ valB (vs.take (j + 1)) = (b0 ++ valB (vs.take j)) ++ Lib.uvarint (Lib.zigzag z)) := by
            unfold Hid
            rw [hpush, List.append_assoc]
            rfl
          obtain ⟨a1, n1, c1, rfl⟩ := own_slice HOJ.out
          have JI := hide (Pak.putInt_any _ _ z wr (bs_own HOJ.out rfl) hfz.1 hfz.2 hln)
          have HSJ : Hid (w.heap.size ≤ wr.heap.size) := (below_on B1.out (below_on HB.out HBJ.out)).size
          generalize b0 ++ valB (vs.take j) = bj at *
          clear hfz hpush hln
          go_wp2_with fail
          refine JI.out.mono ?_
          rintro e w7 ⟨v7, rfl, ho7, hb7⟩
          have HO7 : Hid (w7.ownsRow w.heap.size 5 1 v7 (b0 ++ valB (vs.take (j + 1))).length (Lib.byteCells (b0 ++ valB (vs.take (j + 1))))) := by
            rw [HPU.out, List.length_append]
            exact own_lower ho7 HSJ.out
          have HB7 := hide (below_on HBJ.out hb7)
          clear ho7 hb7 JI
          obtain ⟨a7, n7, c7, rfl⟩ := own_slice HO7.out
          go_wp2_with fail
          go_roundw
          case rel => exact ⟨j + 1, by omega, by go_num, HO7, HB7⟩
          case measure => simp [intOf]; omega
        · obtain rfl : j = vs.length := by omega
          have t2 : ¬ (vs.length : Int) < (vs.length : Int) := by omega
          have ho := HOJ.out
          rw [List.take_length, ← HNX.out] at ho
          have HO9 := hide ho
          clear ho HOJ
          obtain ⟨a9, n9, c9, rfl⟩ := own_slice HO9.out
          have HB9 := hide (below_on HB.out HBJ.out)
          go_wp2_with fail
          go_roundw
          case rel => exact ⟨i + 1, by omega, by go_num, HO9, HB9⟩
          case measure => simp [intOf]; omega
    · obtain rfl : i = L.length := by omega
      have t1 : ¬ (L.length : Int) < (L.length : Int) := by omega
      have ho := HO.out
      rw [HLR.out, List.take_length] at ho
      have HO9 := hide ho
      have HB9 := hide (below_on B1.out HB.out)
      clear ho HO
      obtain ⟨a9, n9, c9, rfl⟩ := own_slice HO9.out
      go_wp2_with fail
      go_ret
      exact ⟨_, rfl, HO9.out, HB9.out⟩
end
end Go.Proofs.YtafmiolehlagkaaGreat

/-
  World: parts are put: what the world is then.
-/
namespace Go.Proofs.YtafmiolehlagkaaGreat
open Go.RowKit
set_option maxRecDepth 100000
/-- Parts that may stand together. -/
def Pg (ks : List Kind) (l : List Pt) : Prop := (∀ p ∈ l, 1 ≤ p.1 ∧ p.1 ≤ (ks.length : Int) ∧ p.2.2.1 = (ks.getD (p.1.toNat - 1) (ByteArray.empty, [])).2.length) ∧ (l.map (fun p => p.1.toNat - 1)).Nodup
theorem come_pg {ks : List Kind} {l : List Pt} {s : Nat} (h : comeL ks s l = 0) : Pg ks l := by
  obtain ⟨h1, h2, -⟩ := come_all ks l s h
  exact ⟨fun p hp => ⟨(h1 p hp).1, (h1 p hp).2.1, (h1 p hp).2.2.2⟩, h2⟩
theorem pg_come {ks : List Kind} : ∀ (l : List Pt) (s : Nat), Pg ks l → (∀ p ∈ l, s.testBit p.1.toNat = false) → comeL ks s l = 0
  | [], _, _, _ => rfl
  | p :: t, s, h, hs => by
    obtain ⟨h1, h2⟩ := h
    rw [List.map_cons, List.nodup_cons] at h2
    obtain ⟨a1, a2, a3⟩ := h1 p (by simp)
    have e : comeS ks s p.1 p.2.2.1 = 0 := by
      unfold comeS
      rw [if_pos ⟨a1, a2⟩, if_neg (by rw [hs p (by simp)]; simp), if_pos a3]
    unfold comeL
    rw [if_pos e]
    refine pg_come t _ ⟨fun x hx => h1 x (List.mem_cons_of_mem _ hx), h2.2⟩ (fun x hx => ?_)
    rw [bit_or, hs x (List.mem_cons_of_mem _ hx), Bool.false_or, decide_eq_false_iff_not]
    intro e
    have := h1 x (List.mem_cons_of_mem _ hx)
    exact h2.1 (List.mem_map.2 ⟨x, hx, by omega⟩)
theorem Pg.facts {ks : List Kind} {l : List Pt} (h : Pg ks l) (hk : ks.length ≤ 12) : l.length ≤ 12 ∧ (∀ p ∈ l, 1 ≤ p.1 ∧ p.1 ≤ 12) ∧ fsum ks (setOf l) 1 = nvals l ∧ Sb ks (setOf l) ∧ setOf l < 8192 := by
  have hc := pg_come l 0 h (fun p _ => by simp)
  obtain ⟨h1, h2, h3⟩ := come_twelve hc hk
  exact ⟨h1, h2, h3, come_sb hc, setOf_lt l h2⟩
theorem Iz.one {w : World} {v : Value} {l l' : List Int} (h : Iz w v l) (h' : Iz w v l') : l = l' := by
  obtain ⟨ao, c, rfl, h1, h2, h3⟩ := h
  obtain ⟨ao', c', e, h1', h2', h3'⟩ := h'
  simp only [Value.slice.injEq] at e
  obtain ⟨rfl, hl, rfl⟩ := e
  refine List.ext_getElem hl (fun i i1 i2 => ?_)
  obtain ⟨g, o, e1, e2⟩ := h3 i i1
  obtain ⟨g', o', e1', e2'⟩ := h3' i i2
  rw [e1] at e1'
  simp only [Option.some.injEq, Addr.mk.injEq, and_true] at e1'
  obtain ⟨rfl, rfl⟩ := e1'
  rw [e2] at e2'
  simpa using e2'
open Classical in
noncomputable def valsOf (w : World) (v : Value) : List Int := if h : ∃ l, Iz w v l then h.choose else []
theorem Iz.vals {w : World} {v : Value} {l : List Int} (h : Iz w v l) : valsOf w v = l := by
  unfold valsOf
  rw [dif_pos ⟨l, h⟩]
  exact Iz.one (Exists.choose_spec (⟨l, h⟩ : ∃ l, Iz w v l)) h
section
variable {w w' : World} {own : Nat → Nat} {gw gp gm gt M M' : Nat} {vk : Value} {ks : List Kind} {gs fr gs' fr' : List Nat} {f f' : Int × Int → Option Nat} {q q' : Nat → Option Nat} {T T' : Nat → Ts}
/-- What is told of the parts that were put. -/
theorem put_told {l l' : List Pt} {V : Pt → List Int} (hg : Pg ks l) (hk : ks.length ≤ 12) (hV : ∀ p ∈ l, (V p).length = p.2.2.1) (hp : l'.Perm l) (hs : l'.Pairwise (fun x y => x.1 ≤ y.1)) :
    (l'.flatMap V).length = fsum ks (setOf l) 1 ∧ partsL ks (setOf l) 1 (l'.flatMap V) = l'.map (fun p => (p.1.toNat, V p)) := by
  obtain ⟨f1, f2, f3, f4, f5⟩ := hg.facts hk
  have hm : ∀ p, p ∈ l' ↔ p ∈ l := fun p => hp.mem_iff
  have hlt : l'.Pairwise (fun x y => x.1 < y.1) := by
    have hn : (l'.map (fun p => p.1.toNat - 1)).Nodup := (hp.map _).nodup_iff.2 hg.2
    have hn2 := List.pairwise_map.1 hn
    refine List.Pairwise.imp_of_mem (fun {a b} ha hb h => ?_) (hs.and hn2)
    have a1 := hg.1 a ((hm a).1 ha)
    have b1 := hg.1 b ((hm b).1 hb)
    have := h.1
    have := h.2
    omega
  refine ⟨?_, ?_⟩
  · rw [f3, nvals_flat l' (fun p hp => hV p ((hm p).1 hp))]
    have : (l'.flatMap V).length = (l.flatMap V).length := (hp.flatMap_right V).length_eq
    rw [nvals_flat l' (fun p hp => hV p ((hm p).1 hp)), nvals_flat l hV] at this
    exact this
  · refine parts_of V ks (setOf l) 1 l' (fun p hp' => ?_) hlt (fun k k1 k2 => ?_)
    · have := hg.1 p ((hm p).1 hp')
      refine ⟨this.1, by omega, (hV p ((hm p).1 hp')).trans this.2.2⟩
    · rw [setOf_bit, List.any_eq_true]
      constructor
      · rintro ⟨p, hp', e⟩
        exact ⟨p, (hm p).2 hp', beq_iff_eq.1 e⟩
      · rintro ⟨p, hp', e⟩
        exact ⟨p, (hm p).1 hp', beq_iff_eq.2 e⟩
theorem put_parts (h : Wx 0 w own gw vk gp gm gt M ks gs fr f q T) (hw : Wi ks f q T) (hks : ks.length ≤ 12) (hk4 : ∀ x ∈ ks, x.2.length ≤ 4) (a b : Int) (hib : InB (a, b)) (hfn : f (a, b) = none) (hcnt : ∀ E : List (Int × Int), E.Nodup → (∀ e ∈ E, (f e).isSome = true) → E.length < 200) (hM : M ≤ 900000) (v : Value) (l : List Pt) (V : Pt → List Int) (hv : Rp w v l) (hg : Pg ks l) (hV : ∀ p ∈ l, Iz w (ptV p) (V p) ∧ (p.2.1 = none → p.2.2 = (0, 0))) :
    Calls Tryz.prog 67 #[.pointer (some ⟨gw, 0, none⟩), .agg #[.int .i64 a, .int .i64 b], v] w fun e w' => e = .returned (.tuple #[]) ∧ ∃ (vals : List Int) (g : Nat) (own' : Nat → Nat), Wx 0 w' own' gw vk gp gm gt (M + 3) ks gs fr (fun x => if x = (a, b) then some (setOf l) else f x) (fun x => if x = setOf l then some g else q x) (moreT q T (setOf l) (a, b) vals) ∧ Wk own own' w w' ∧ Wi ks (fun x => if x = (a, b) then some (setOf l) else f x) (fun x => if x = setOf l then some g else q x) (moreT q T (setOf l) (a, b) vals) ∧ vals.length = fsum ks (setOf l) 1 ∧ ∀ r, r ∈ partsL ks (setOf l) 1 vals ↔ ∃ p ∈ l, r = (p.1.toNat, V p) := by
  obtain ⟨f1, f2, f3, f4, f5⟩ := hg.facts hks
  have hVl : ∀ p ∈ l, (V p).length = p.2.2.1 := fun p hp => by
    obtain ⟨ao, c, e, -⟩ := (hV p hp).1
    simp only [ptV, Value.slice.injEq] at e
    exact e.2.1.symm
  have hl := nvals_flat l hVl
  have h48 := fsum_le ks (setOf l) 1 hk4
  refine (put_any h a b hib v l V hv f1 hV f2 (by omega) hM (fun g hg' => ?_)).mono ?_
  · obtain ⟨k1, k2, k3, k4, k5, k6⟩ := hw.2 _ g hg'
    refine ⟨fun hm => ?_, hcnt _ k3 (fun e he => by rw [k4 e he]; rfl), by rw [k2, hl, f3]⟩
    have := k4 _ hm
    rw [hfn] at this
    cases this
  · rintro e w' ⟨rfl, l', g, own', p1, p2, p3, p4⟩
    obtain ⟨t1, t2⟩ := put_told hg hks hVl p1 p2
    refine ⟨rfl, l'.flatMap V, g, own', p3, p4, hw.put hfn f5 f4 t1, t1, fun r => ?_⟩
    rw [t2, List.mem_map]
    constructor
    · rintro ⟨p, hp, rfl⟩
      exact ⟨p, p1.mem_iff.1 hp, rfl⟩
    · rintro ⟨p, hp, rfl⟩
      exact ⟨p, p1.mem_iff.2 hp, rfl⟩
end
end Go.Proofs.YtafmiolehlagkaaGreat

/-
  World: why an entity has no part of a kind.
-/
namespace Go.Proofs.YtafmiolehlagkaaGreat
open Go.RowKit
set_option maxRecDepth 100000
/-- Why there is no part of a kind. -/
def hasE (ks : List Kind) (lv : Bool) (s : Nat) (x : Int) : Int := if lv then (if 1 ≤ x ∧ x ≤ (ks.length : Int) then (if s.testBit x.toNat then 0 else 62) else 60) else 41
section
variable {w w' : World} {own : Nat → Nat} {gw gp gm gt M M' : Nat} {vk : Value} {ks : List Kind} {gs fr gs' fr' : List Nat} {f f' : Int × Int → Option Nat} {q q' : Nat → Option Nat} {T T' : Nat → Ts}
set_option maxHeartbeats 4000000 in
theorem haspart_any (h : Wx 0 w own gw vk gp gm gt M ks gs fr f q T) (a b x : Int) (hib : InB (a, b)) (hks : ks.length ≤ 12) (s : Nat) (hs : s < 8192) (hf : livesOf gs fr a b = true → f (a, b) = some s) :
    Calls Tryz.prog 76 #[.pointer (some ⟨gw, 0, none⟩), .agg #[.int .i64 a, .int .i64 b], .int .i64 x] w fun e w' => e = .returned (.int .i64 (hasE ks (livesOf gs fr a b) s x)) ∧ Below w.heap.size w w' := by
  obtain ⟨w1, hw1⟩ : ∃ X, X = w.alloc (.cells #[.int .i64 a, .int .i64 b] 29) := ⟨_, rfl⟩
  have B1 : Below w.heap.size w w1 := hw1 ▸ below_alloc w _
  have hx1 : w1.heap[w.heap.size]? = some (.cells #[.int .i64 a, .int .i64 b] 29 (0, 0)) := hw1 ▸ heap_alloc_new w _
  have H1 := hide (h.later B1)
  have HB1 := hide B1
  have JL : Hid (Calls Tryz.prog 32 #[.pointer (some ⟨gw, 0, none⟩), .agg #[.int .i64 a, .int .i64 b]] w1 fun e w' => e = .returned (.bool (livesOf gs fr a b)) ∧ Below w1.heap.size w1 w') := wlives_any H1.out a b
  have JK : Hid (∀ W, Below w1.heap.size w1 W → Calls Tryz.prog 146 #[.pointer (some ⟨gw, 0, none⟩), .int .i64 x] W fun e w' => e = .returned (.bool (decide (1 ≤ x ∧ x ≤ (ks.length : Int)))) ∧ w' = W) := fun W hW => by
    have hx := H1.out.later hW
    exact iskind_any hx.2.2.1 hx.2.2.2.1.kr x
  have HLK : Hid (livesOf gs fr a b = true → ∀ W, Below w1.heap.size w1 W → (Instr.lookup 106 (.map (some gm)) (.agg #[.int .i64 a, .int .i64 b]) false).run Tryz.prog W = .ok (.int .i64 (s : Int)) W ∧ W.cell? ⟨gw, 2, none⟩ = some (.map (some gm)) ∧ W.cell? ⟨w.heap.size, 0, none⟩ = some (.int .i64 a) ∧ W.cell? ⟨w.heap.size, 1, none⟩ = some (.int .i64 b)) := fun hl W hW => by
    have hx := H1.out.later hW
    exact ⟨hx.mp.look1 a b hib (hf hl), hx.cells.2.2.1, kx_cells hx1 hW⟩
  obtain ⟨p0, p1⟩ := kx_cells hx1 (Below.refl _ w1)
  clear h hf H1
  go_enter Tryz.func76, Tryz.ntmps76
  go_upto_region 1 with fail
  rw [← hw1]
  obtain ⟨kx, hkx⟩ : ∃ k, k = w.heap.size := ⟨_, rfl⟩
  rw [← hkx] at p0 p1 HLK ⊢
  clear hx1 hw1 hkx B1
  cases hlv : livesOf gs fr a b with
  | false =>
    rw [hlv] at JL
    have EC : Hid (hasE ks (livesOf gs fr a b) s x = 41) := by
      unfold Hid
      rw [hlv]
      rfl
    clear HLK JK hlv
    go_wp2_with fail
    refine JL.out.mono ?_
    rintro e w2 ⟨rfl, hb2⟩
    have HB2 := hide hb2
    clear hb2
    go_wp2_with fail
    go_ret
    exact ⟨ret_int EC.out.symm, below_on HB1.out HB2.out⟩
  | true =>
    have HL2 := hide (HLK.out hlv)
    have HLV := hide hlv
    rw [hlv] at JL
    clear HLK hlv
    by_cases hk : 1 ≤ x ∧ x ≤ (ks.length : Int)
    · obtain ⟨k, rfl⟩ : ∃ k : Nat, x = (k : Int) := ⟨x.toNat, by omega⟩
      have EC : Hid (hasE ks (livesOf gs fr a b) s (k : Int) = if s.testBit k then 0 else 62) := by
        unfold hasE Hid
        rw [if_pos HLV.out, if_pos hk, Int.toNat_natCast]
      rw [decide_eq_true hk] at JK
      have JH : Hid (∀ W, Calls Tryz.prog 133 #[.int .i64 (s : Int), .int .i64 (k : Int)] W fun e w' => e = .returned (.bool (s.testBit k)) ∧ w' = W) := fun W => has_any s k W hs (by omega)
      generalize s.testBit k = bt at *
      clear hk
      go_wp2_with fail
      refine JL.out.mono ?_
      rintro e w2 ⟨rfl, hb2⟩
      have HB2 := hide hb2
      clear hb2 JL
      go_wp2_with fail
      refine (JK.out w2 HB2.out).mono ?_
      rintro e w2' ⟨rfl, rfl⟩
      obtain ⟨w2, rfl⟩ : ∃ X, X = w2' := ⟨_, rfl⟩
      clear JK p0 p1
      obtain ⟨hlk, c2, p0, p1⟩ := HL2.out w2.drew (below_on HB2.out (below_drew w2))
      have HB3 := hide (below_on HB2.out (below_drew w2))
      clear HL2
      go_upto_region 5 with fail
      refine wp_region_noPanic ?_
      refine wp_region_late (J := fun i => i != 99) (S := fun W => W.cell? ⟨gw, 2, none⟩ = some (.map (some gm)) ∧ W.cell? ⟨kx, 0, none⟩ = some (.int .i64 a) ∧ W.cell? ⟨kx, 1, none⟩ = some (.int .i64 b)) (by kernel_rfl) ⟨c2, p0, p1⟩ (fun hHeld => ?_)
      refine' wpAnyJ_takeW (i := 0) (oi := { dst := some 15, op := Op.move (Operand.tmp 0), type := 37, pos := "world.go:175", after := #[], guard := none }) (v := _) rfl (by kernel_rfl) (by kernel_rfl) (by kernel_rfl) (fun _ _ _ h => h) (Or.inl ⟨by rfl, ?hyA1⟩) ?reA1
      case hyA1 => (intro W hSw; (try dsimp only at hSw); go_simp; try with_reducible rfl)
      try simp only [Act.put, List.setIfInBounds_toArray, List.set_cons_zero, List.set_cons_succ]
      refine' wpAnyJ_takeW (i := 1) (oi := { dst := some 16, op := Op.nilCheck (Operand.tmp 15), type := 0, pos := "world.go:175", after := #[{ on := 0, ground := Ground.data }], guard := none }) (v := _) rfl (by kernel_rfl) (by kernel_rfl) (by kernel_rfl) (fun _ _ _ h => h) (Or.inl ⟨by rfl, ?hyA2⟩) ?reA2
      case hyA2 => (intro W hSw; (try dsimp only at hSw); go_simp; try with_reducible rfl)
      try simp only [Act.put, List.setIfInBounds_toArray, List.set_cons_zero, List.set_cons_succ]
      refine' wpAnyJ_takeW (i := 2) (oi := { dst := some 17, op := Op.fieldAddr 109 (Operand.tmp 16) 2, type := 0, pos := "world.go:175", after := #[{ on := 1, ground := Ground.data }], guard := none }) (v := _) rfl (by kernel_rfl) (by kernel_rfl) (by kernel_rfl) (fun _ _ _ h => h) (Or.inl ⟨by rfl, ?hyA3⟩) ?reA3
      case hyA3 => (intro W hSw; (try dsimp only at hSw); go_simp; try with_reducible rfl)
      try simp only [Act.put, List.setIfInBounds_toArray, List.set_cons_zero, List.set_cons_succ]
      refine' wpAnyJ_take (i := 3) (oi := { dst := some 18, op := Op.load 106 (Operand.tmp 17), type := 106, pos := "world.go:175", after := #[{ on := 2, ground := Ground.data }], guard := none }) (v := _) rfl (by kernel_rfl) (by kernel_rfl) (by kernel_rfl) (by kernel_rfl) (fun _ _ _ h => h) (Or.inl ⟨by rfl, ?hyA4⟩) (by assumption) ?reA4
      case hyA4 => (intro W hSw; (try dsimp only at hSw); go_simp; try with_reducible rfl)
      try simp only [Act.put, List.setIfInBounds_toArray, List.set_cons_zero, List.set_cons_succ]
      refine' wpAnyJ_take (i := 4) (oi := { dst := some 19, op := Op.load 29 (Operand.tmp 4), type := 29, pos := "world.go:175", after := #[], guard := none }) (v := _) rfl (by kernel_rfl) (by kernel_rfl) (by kernel_rfl) (by kernel_rfl) (fun _ _ _ h => h) (Or.inl ⟨by rfl, ?hyA5⟩) (by assumption) ?reA5
      case hyA5 => (intro W hSw; (try dsimp only at hSw); go_simp; try with_reducible rfl)
      try simp only [Act.put, List.setIfInBounds_toArray, List.set_cons_zero, List.set_cons_succ]
      refine' wpAnyJ_takeW (i := 6) (oi := { dst := some 21, op := Op.move (Operand.tmp 2), type := 3, pos := "world.go:175", after := #[], guard := none }) (v := _) rfl (by kernel_rfl) (by kernel_rfl) (by kernel_rfl) (fun _ _ _ h => h) (Or.inl ⟨by rfl, ?hyA6⟩) ?reA6
      case hyA6 => (intro W hSw; (try dsimp only at hSw); go_simp; try with_reducible rfl)
      try simp only [Act.put, List.setIfInBounds_toArray, List.set_cons_zero, List.set_cons_succ]
      refine wpAnyJ_ready (rs := [5]) (by kernel_rfl) (by simp) ?_
      refine AllReadyJ.cons (o := { dst := some 20, op := Op.lookup 106 (Operand.tmp 18) (Operand.tmp 19) false, type := 3, pos := "world.go:175", after := #[{ on := 3, ground := Ground.data }, { on := 4, ground := Ground.data }], guard := none }) rfl (fun K hK => ?_) AllReadyJ.nil
      go_simp
      refine hK.out _ _ (fun _ _ => ⟨c2, p0, p1⟩) ?_
      clear hK K
      try simp only [Act.put, List.setIfInBounds_toArray, List.set_cons_zero, List.set_cons_succ]
      refine wpAnyJ_ready (rs := [7]) (by kernel_rfl) (by simp) ?_
      refine AllReadyJ.cons (o := { dst := some 22, op := Op.call { callee := Callee.value (Operand.func 133), args := #[Operand.tmp 20, Operand.tmp 21], argTypes := #[3, 3] }, type := 4, pos := "world.go:175", after := #[{ on := 5, ground := Ground.data }, { on := 6, ground := Ground.data }], guard := none }) rfl (fun K hK => ?_) AllReadyJ.nil
      go_simp
      go_at_call 133
      refine (JH.out _).mono ?_
      rintro e w3 ⟨rfl, rfl⟩
      go_simp
      refine hK.out _ _ (fun _ _ => ⟨c2, p0, p1⟩) ?_
      clear hK K
      try simp only [Act.put, List.setIfInBounds_toArray, List.set_cons_zero, List.set_cons_succ]
      refine' wpAnyJ_takeW (i := 8) (oi := { dst := some 23, op := Op.unOp UnOp.not 4 (Operand.tmp 22), type := 4, pos := "world.go:175", after := #[{ on := 7, ground := Ground.data }], guard := none }) (v := _) rfl (by kernel_rfl) (by kernel_rfl) (by kernel_rfl) (fun _ _ _ h => h) (Or.inl ⟨by rfl, ?hyA7⟩) ?reA7
      case hyA7 => (intro W hSw; (try dsimp only at hSw); go_simp; try with_reducible rfl)
      try simp only [Act.put, List.setIfInBounds_toArray, List.set_cons_zero, List.set_cons_succ]
      refine wpAnyJ_done (by kernel_rfl) ?_ _
      refine NoPanic.normal ?_
      cases bt with
      | true =>
        have EC2 : Hid (hasE ks (livesOf gs fr a b) s (k : Int) = 0) := EC.out.trans rfl
        clear EC hlk
        go_wp2_with fail
        go_ret
        exact ⟨ret_int EC2.out.symm, below_on HB1.out HB3.out⟩
      | false =>
        have EC2 : Hid (hasE ks (livesOf gs fr a b) s (k : Int) = 62) := EC.out.trans rfl
        clear EC hlk
        go_wp2_with fail
        go_ret
        exact ⟨ret_int EC2.out.symm, below_on HB1.out HB3.out⟩
    · rw [decide_eq_false hk] at JK
      have EC : Hid (hasE ks (livesOf gs fr a b) s x = 60) := by
        unfold hasE Hid
        rw [if_pos HLV.out, if_neg hk]
      clear hk HL2
      go_wp2_with fail
      refine JL.out.mono ?_
      rintro e w2 ⟨rfl, hb2⟩
      have HB2 := hide hb2
      clear hb2 JL
      go_wp2_with fail
      refine (JK.out w2 HB2.out).mono ?_
      rintro e w2' ⟨rfl, rfl⟩
      clear JK
      go_wp2_with fail
      go_ret
      exact ⟨ret_int EC.out.symm, below_on HB1.out HB2.out⟩
end
end Go.Proofs.YtafmiolehlagkaaGreat

/-
  World: what Get, Set, Remove, Add answer where something is wrong.
-/
namespace Go.Proofs.YtafmiolehlagkaaGreat
open Go.RowKit
set_option maxRecDepth 100000
section
variable {w w' : World} {own : Nat → Nat} {gw gp gm gt M M' : Nat} {vk : Value} {ks : List Kind} {gs fr gs' fr' : List Nat} {f f' : Int × Int → Option Nat} {q q' : Nat → Option Nat} {T T' : Nat → Ts}
set_option maxHeartbeats 2000000 in
theorem wset_err (h : Wx 0 w own gw vk gp gm gt M ks gs fr f q T) (a b x : Int) (hib : InB (a, b)) (hks : ks.length ≤ 12) (s : Nat) (hs : s < 8192) (hf : livesOf gs fr a b = true → f (a, b) = some s) (z : Int) (hz : hasE ks (livesOf gs fr a b) s x = z) (hz0 : z ≠ 0) (av : Option Addr) (nv cv : Nat) : Calls Tryz.prog 35 #[.pointer (some ⟨gw, 0, none⟩), .agg #[.int .i64 a, .int .i64 b], .agg #[.int .i64 x, .slice av nv cv]] w fun e w' => e = .returned (.int .i64 z) ∧ Below w.heap.size w w' := by
  have JH : Hid (∀ W, Below w.heap.size w W → Calls Tryz.prog 76 #[.pointer (some ⟨gw, 0, none⟩), .agg #[.int .i64 a, .int .i64 b], .int .i64 x] W fun e w' => e = .returned (.int .i64 z) ∧ Below W.heap.size W w') := fun W hW => by
    have := haspart_any (h.later hW) a b x hib hks s hs hf
    rw [hz] at this
    exact this
  have hz1 : (z != 0) = true := by rw [bne_iff_ne]; exact hz0
  have hz2 : (z == 0) = false := by rw [beq_eq_false_iff_ne]; exact hz0
  clear h hz hf
  have B2 : Hid (Below w.heap.size w ((w.alloc (.cells #[.int .i64 a, .int .i64 b] 29)).alloc (.cells #[.int .i64 x, .slice av nv cv] 32))) := below_on (below_alloc w _) (below_alloc _ _)
  have J1 := hide (JH.out _ B2.out)
  go_enter Tryz.func35, Tryz.ntmps35
  go_wp2_with fail
  refine J1.out.mono ?_
  rintro e w3 ⟨rfl, hb3⟩
  have HB3 := hide (below_on B2.out hb3)
  clear hb3 J1 JH
  go_wp2_with fail
  go_ret
  exact ⟨rfl, HB3.out⟩
set_option maxHeartbeats 2000000 in
theorem remove_err (h : Wx 0 w own gw vk gp gm gt M ks gs fr f q T) (a b x : Int) (hib : InB (a, b)) (hks : ks.length ≤ 12) (s : Nat) (hs : s < 8192) (hf : livesOf gs fr a b = true → f (a, b) = some s) (z : Int) (hz : hasE ks (livesOf gs fr a b) s x = z) (hz0 : z ≠ 0) : Calls Tryz.prog 26 #[.pointer (some ⟨gw, 0, none⟩), .agg #[.int .i64 a, .int .i64 b], .int .i64 x] w fun e w' => e = .returned (.int .i64 z) ∧ Below w.heap.size w w' := by
  have JH : Hid (∀ W, Below w.heap.size w W → Calls Tryz.prog 76 #[.pointer (some ⟨gw, 0, none⟩), .agg #[.int .i64 a, .int .i64 b], .int .i64 x] W fun e w' => e = .returned (.int .i64 z) ∧ Below W.heap.size W w') := fun W hW => by
    have := haspart_any (h.later hW) a b x hib hks s hs hf
    rw [hz] at this
    exact this
  have hz1 : (z != 0) = true := by rw [bne_iff_ne]; exact hz0
  have hz2 : (z == 0) = false := by rw [beq_eq_false_iff_ne]; exact hz0
  clear h hz hf
  have B2 : Hid (Below w.heap.size w ((w.alloc (.cells #[.int .i64 a, .int .i64 b] 29)).alloc (.cells #[.int .i64 x] 3))) := below_on (below_alloc w _) (below_alloc _ _)
  have J1 := hide (JH.out _ B2.out)
  go_enter Tryz.func26, Tryz.ntmps26
  go_wp2_with fail
  refine J1.out.mono ?_
  rintro e w3 ⟨rfl, hb3⟩
  have HB3 := hide (below_on B2.out hb3)
  clear hb3 J1 JH
  go_wp2_with fail
  go_ret
  exact ⟨rfl, HB3.out⟩
set_option maxHeartbeats 2000000 in
theorem add_stale (h : Wx 0 w own gw vk gp gm gt M ks gs fr f q T) (a b x : Int) (av : Option Addr) (nv cv : Nat) (hl : livesOf gs fr a b = false) : Calls Tryz.prog 27 #[.pointer (some ⟨gw, 0, none⟩), .agg #[.int .i64 a, .int .i64 b], .agg #[.int .i64 x, .slice av nv cv]] w fun e w' => e = .returned (.int .i64 41) ∧ Below w.heap.size w w' := by
  have B2 : Hid (Below w.heap.size w ((w.alloc (.cells #[.int .i64 a, .int .i64 b] 29)).alloc (.cells #[.int .i64 x, .slice av nv cv] 32))) := below_on (below_alloc w _) (below_alloc _ _)
  have J1 := hide (wlives_any (h.later B2.out) a b)
  rw [hl] at J1
  clear h hl
  go_enter Tryz.func27, Tryz.ntmps27
  go_wp2_with fail
  refine J1.out.mono ?_
  rintro e w3 ⟨rfl, hb3⟩
  have HB3 := hide (below_on B2.out hb3)
  clear hb3 J1
  go_wp2_with fail
  go_ret
  exact ⟨rfl, HB3.out⟩
set_option maxHeartbeats 2000000 in
theorem add_err (h : Wx 0 w own gw vk gp gm gt M ks gs fr f q T) (a b x : Int) (hib : InB (a, b)) (hks : ks.length ≤ 12) (s : Nat) (hs : s < 8192) (hf : f (a, b) = some s) (av : Option Addr) (nv cv : Nat) (hl : livesOf gs fr a b = true) (z : Int) (hz : comeS ks s x nv = z) (hz0 : z ≠ 0) : Calls Tryz.prog 27 #[.pointer (some ⟨gw, 0, none⟩), .agg #[.int .i64 a, .int .i64 b], .agg #[.int .i64 x, .slice av nv cv]] w fun e w' => e = .returned (.int .i64 z) ∧ Below w.heap.size w w' := by
  obtain ⟨w2, hw2⟩ : ∃ X, X = (w.alloc (.cells #[.int .i64 a, .int .i64 b] 29)).alloc (.cells #[.int .i64 x, .slice av nv cv] 32) := ⟨_, rfl⟩
  have B2 : Hid (Below w.heap.size w w2) := hw2 ▸ below_on (below_alloc w _) (below_alloc _ _)
  have H2 := hide (h.later B2.out)
  have J1 := hide (wlives_any H2.out a b)
  rw [hl] at J1
  have hx1 : w2.heap[w.heap.size]? = some (.cells #[.int .i64 a, .int .i64 b] 29 (0, 0)) := by
    rw [hw2]
    exact ((below_alloc _ _).block w.heap.size (by simp)).trans (heap_alloc_new w _)
  have hx2 : w2.heap[w.heap.size + 1]? = some (.cells #[.int .i64 x, .slice av nv cv] 32 (0, 0)) := by
    have := heap_alloc_new (w.alloc (.cells #[.int .i64 a, .int .i64 b] 29)) (.cells #[.int .i64 x, .slice av nv cv] 32)
    rw [hw2]
    simpa using this
  have HW : Hid (∀ W, Below w2.heap.size w2 W → (Instr.lookup 106 (.map (some gm)) (.agg #[.int .i64 a, .int .i64 b]) false).run Tryz.prog W = .ok (.int .i64 (s : Int)) W ∧ W.cell? ⟨gw, 2, none⟩ = some (.map (some gm)) ∧ W.cell? ⟨w.heap.size, 0, none⟩ = some (.int .i64 a) ∧ W.cell? ⟨w.heap.size, 1, none⟩ = some (.int .i64 b) ∧ W.cell? ⟨w.heap.size + 1, 0, none⟩ = some (.int .i64 x) ∧ W.cell? ⟨w.heap.size + 1, 1, none⟩ = some (.slice av nv cv)) := fun W hW => by
    have hx := H2.out.later hW
    have h5 := (hW.block _ (lt_of_block hx2)).trans hx2
    refine ⟨hx.mp.look1 a b hib hf, hx.cells.2.2.1, (kx_cells hx1 hW).1, (kx_cells hx1 hW).2, ?_, ?_⟩ <;> rw [cell_of_row W _ _ _ 32 (0, 0) h5] <;> rfl
  have JM : Hid (∀ W, Below w2.heap.size w2 W → Calls Tryz.prog 74 #[.pointer (some ⟨gw, 0, none⟩), .int .i64 (s : Int), .agg #[.int .i64 x, .slice av nv cv]] W fun e w' => e = .returned (.int .i64 z) ∧ Below W.heap.size W w') := fun W hW => by
    have hx := H2.out.later hW
    have := maycome_any hx.2.2.1 hx.2.2.2.1.kr hks s hs x av nv cv
    rw [hz] at this
    exact this
  have hz1 : (z != 0) = true := by rw [bne_iff_ne]; exact hz0
  have hz2 : (z == 0) = false := by rw [beq_eq_false_iff_ne]; exact hz0
  clear h hz hf hl hx1 hx2 H2
  go_enter Tryz.func27, Tryz.ntmps27
  go_wp2_with fail
  rw [← hw2]
  obtain ⟨kx, hkx⟩ : ∃ k, k = w.heap.size := ⟨_, rfl⟩
  obtain ⟨kp, hkp⟩ : ∃ k, k = w.heap.size + 1 := ⟨_, rfl⟩
  rw [← hkp, ← hkx] at HW ⊢
  clear hkx hkp hw2
  refine J1.out.mono ?_
  rintro e w3 ⟨rfl, hb3⟩
  have HB3 := hide hb3
  clear hb3 J1
  have HB4 := hide (below_on HB3.out (below_drew w3))
  obtain ⟨hlk, c2, p0, p1, p2, p3⟩ := HW.out w3.drew HB4.out
  have J2 := hide (JM.out w3.drew HB4.out)
  go_upto_region 3 with fail
  refine wp_region_noPanic ?_
  refine wp_region_late (J := fun i => i != 99) (S := fun W => W.cell? ⟨gw, 2, none⟩ = some (.map (some gm)) ∧ W.cell? ⟨kx, 0, none⟩ = some (.int .i64 a) ∧ W.cell? ⟨kx, 1, none⟩ = some (.int .i64 b) ∧ W.cell? ⟨kp, 0, none⟩ = some (.int .i64 x) ∧ W.cell? ⟨kp, 1, none⟩ = some (.slice av nv cv)) (by kernel_rfl) ⟨c2, p0, p1, p2, p3⟩ (fun hHeld => ?_)
  refine' wpAnyJ_takeW (i := 0) (oi := { dst := some 13, op := Op.move (Operand.tmp 0), type := 37, pos := "world.go:65", after := #[], guard := none }) (v := _) rfl (by kernel_rfl) (by kernel_rfl) (by kernel_rfl) (fun _ _ _ h => h) (Or.inl ⟨by rfl, ?hyA1⟩) ?reA1
  case hyA1 => (intro W hSw; (try dsimp only at hSw); go_simp; try with_reducible rfl)
  try simp only [Act.put, List.setIfInBounds_toArray, List.set_cons_zero, List.set_cons_succ]
  refine' wpAnyJ_takeW (i := 1) (oi := { dst := some 14, op := Op.move (Operand.tmp 0), type := 37, pos := "world.go:65", after := #[], guard := none }) (v := _) rfl (by kernel_rfl) (by kernel_rfl) (by kernel_rfl) (fun _ _ _ h => h) (Or.inl ⟨by rfl, ?hyA2⟩) ?reA2
  case hyA2 => (intro W hSw; (try dsimp only at hSw); go_simp; try with_reducible rfl)
  try simp only [Act.put, List.setIfInBounds_toArray, List.set_cons_zero, List.set_cons_succ]
  refine' wpAnyJ_takeW (i := 2) (oi := { dst := some 15, op := Op.nilCheck (Operand.tmp 14), type := 0, pos := "world.go:65", after := #[{ on := 1, ground := Ground.data }], guard := none }) (v := _) rfl (by kernel_rfl) (by kernel_rfl) (by kernel_rfl) (fun _ _ _ h => h) (Or.inl ⟨by rfl, ?hyA3⟩) ?reA3
  case hyA3 => (intro W hSw; (try dsimp only at hSw); go_simp; try with_reducible rfl)
  try simp only [Act.put, List.setIfInBounds_toArray, List.set_cons_zero, List.set_cons_succ]
  refine' wpAnyJ_takeW (i := 3) (oi := { dst := some 16, op := Op.fieldAddr 109 (Operand.tmp 15) 2, type := 0, pos := "world.go:65", after := #[{ on := 2, ground := Ground.data }], guard := none }) (v := _) rfl (by kernel_rfl) (by kernel_rfl) (by kernel_rfl) (fun _ _ _ h => h) (Or.inl ⟨by rfl, ?hyA4⟩) ?reA4
  case hyA4 => (intro W hSw; (try dsimp only at hSw); go_simp; try with_reducible rfl)
  try simp only [Act.put, List.setIfInBounds_toArray, List.set_cons_zero, List.set_cons_succ]
  refine' wpAnyJ_take (i := 4) (oi := { dst := some 17, op := Op.load 106 (Operand.tmp 16), type := 106, pos := "world.go:65", after := #[{ on := 3, ground := Ground.data }], guard := none }) (v := _) rfl (by kernel_rfl) (by kernel_rfl) (by kernel_rfl) (by kernel_rfl) (fun _ _ _ h => h) (Or.inl ⟨by rfl, ?hyA5⟩) (by assumption) ?reA5
  case hyA5 => (intro W hSw; (try dsimp only at hSw); go_simp; try with_reducible rfl)
  try simp only [Act.put, List.setIfInBounds_toArray, List.set_cons_zero, List.set_cons_succ]
  refine' wpAnyJ_take (i := 5) (oi := { dst := some 18, op := Op.load 29 (Operand.tmp 4), type := 29, pos := "world.go:65", after := #[], guard := none }) (v := _) rfl (by kernel_rfl) (by kernel_rfl) (by kernel_rfl) (by kernel_rfl) (fun _ _ _ h => h) (Or.inl ⟨by rfl, ?hyA6⟩) (by assumption) ?reA6
  case hyA6 => (intro W hSw; (try dsimp only at hSw); go_simp; try with_reducible rfl)
  try simp only [Act.put, List.setIfInBounds_toArray, List.set_cons_zero, List.set_cons_succ]
  refine' wpAnyJ_take (i := 7) (oi := { dst := some 20, op := Op.load 32 (Operand.tmp 5), type := 32, pos := "world.go:65", after := #[], guard := none }) (v := _) rfl (by kernel_rfl) (by kernel_rfl) (by kernel_rfl) (by kernel_rfl) (fun _ _ _ h => h) (Or.inl ⟨by rfl, ?hyA7⟩) (by assumption) ?reA7
  case hyA7 => (intro W hSw; (try dsimp only at hSw); go_simp; try with_reducible rfl)
  try simp only [Act.put, List.setIfInBounds_toArray, List.set_cons_zero, List.set_cons_succ]
  refine wpAnyJ_ready (rs := [6]) (by kernel_rfl) (by simp) ?_
  refine AllReadyJ.cons (o := { dst := some 19, op := Op.lookup 106 (Operand.tmp 17) (Operand.tmp 18) false, type := 3, pos := "world.go:65", after := #[{ on := 4, ground := Ground.data }, { on := 5, ground := Ground.data }], guard := none }) rfl (fun K hK => ?_) AllReadyJ.nil
  go_simp
  refine hK.out _ _ (fun _ _ => ⟨c2, p0, p1, p2, p3⟩) ?_
  clear hK K
  try simp only [Act.put, List.setIfInBounds_toArray, List.set_cons_zero, List.set_cons_succ]
  refine wpAnyJ_ready (rs := [8]) (by kernel_rfl) (by simp) ?_
  refine AllReadyJ.cons (o := { dst := some 21, op := Op.call { callee := Callee.value (Operand.func 74), args := #[Operand.tmp 13, Operand.tmp 19, Operand.tmp 20], argTypes := #[37, 3, 32] }, type := 61, pos := "world.go:65", after := #[{ on := 0, ground := Ground.data }, { on := 6, ground := Ground.data }, { on := 7, ground := Ground.data }], guard := none }) rfl (fun K hK => ?_) AllReadyJ.nil
  go_simp
  go_at_call 74
  refine J2.out.mono ?_
  rintro e w5 ⟨rfl, hb5⟩
  have HB5 := hide (below_on HB4.out hb5)
  obtain ⟨-, y2, y3, y4, y5, y6⟩ := HW.out w5 HB5.out
  go_simp
  refine hK.out _ _ (fun _ _ => ⟨y2, y3, y4, y5, y6⟩) ?_
  clear hK K hb5
  try simp only [Act.put, List.setIfInBounds_toArray, List.set_cons_zero, List.set_cons_succ]
  refine' wpAnyJ_takeW (i := 9) (oi := { dst := some 7, op := Op.assign (Operand.tmp 21), type := 61, pos := "world.go:65", after := #[{ on := 8, ground := Ground.data }, { on := 8, ground := Ground.chain }, { on := 0, ground := Ground.phase }, { on := 1, ground := Ground.phase }, { on := 2, ground := Ground.phase }, { on := 3, ground := Ground.phase }, { on := 4, ground := Ground.phase }, { on := 5, ground := Ground.phase }, { on := 6, ground := Ground.phase }, { on := 7, ground := Ground.phase }, { on := 8, ground := Ground.phase }], guard := none }) (v := _) rfl (by kernel_rfl) (by kernel_rfl) (by kernel_rfl) (fun _ _ _ h => h) (Or.inl ⟨by rfl, ?hyA8⟩) ?reA8
  case hyA8 => (intro W hSw; (try dsimp only at hSw); go_simp; try with_reducible rfl)
  try simp only [Act.put, List.setIfInBounds_toArray, List.set_cons_zero, List.set_cons_succ]
  refine wpAnyJ_done (by kernel_rfl) ?_ _
  refine NoPanic.normal ?_
  clear hlk c2 p0 p1 p2 p3 y2 y3 y4 y5 y6 J2 HW JM
  go_wp2_with fail
  go_ret
  exact ⟨rfl, below_on B2.out HB5.out⟩
end
end Go.Proofs.YtafmiolehlagkaaGreat

/-
  World: Add, where all is well.
-/
namespace Go.Proofs.YtafmiolehlagkaaGreat
open Go.RowKit
set_option maxRecDepth 100000
theorem own_kinds {w : World} {B B' e e' s s' n n' k : Nat} {v v' : Value} {xs xs' : List Value} (h : w.ownsRow B e s v n xs) (h' : w.ownsRow B' e' s' v' n' xs') (hne : e ≠ e') (hk : v.ownBlock = some k) : v'.ownBlock ≠ some k := fun hk' => by
  rcases h.2 with ⟨rfl, -⟩ | ⟨g, c, cur, rfl, -, hg, -⟩
  · simp [Value.ownBlock] at hk
  · rcases h'.2 with ⟨rfl, -⟩ | ⟨g', c', cur', rfl, -, hg', -⟩
    · simp [Value.ownBlock] at hk'
    · simp only [Value.ownBlock, Option.some.injEq] at hk hk'
      subst hk
      subst hk'
      rw [hg] at hg'
      simp only [Option.some.injEq, Obj.cells.injEq] at hg'
      exact hne hg'.2.1
theorem pz_snoc (L : List Pt) (p : Pt) : pz (L ++ [p]) = pz L ++ [.int .i64 p.1, .slice p.2.1 p.2.2.1 p.2.2.2] := pz_append L [p]
section
variable {w w' : World} {own : Nat → Nat} {gw gp gm gt M M' : Nat} {vk : Value} {ks : List Kind} {gs fr gs' fr' : List Nat} {f f' : Int × Int → Option Nat} {q q' : Nat → Option Nat} {T T' : Nat → Ts}
/-- Parts in memory of their own, and one that was handed in. -/
def Ap1 (w W : World) (ks : List Kind) (s : Nat) (row : List Int) (p : Pt) (v : Value) (L : List Pt) : Prop :=
  W.ownsRow w.heap.size 32 2 v (L ++ [p]).length (pz (L ++ [p])) ∧ Pv w.heap.size W L (partsL ks s 1 row) ∧ Below w.heap.size w W
theorem Ap1.pg {W : World} {s : Nat} {row : List Int} {p : Pt} {v : Value} {L : List Pt} (h : Ap1 w W ks s row p v L) (hr : row.length = fsum ks s 1) (hc : comeS ks s p.1 p.2.2.1 = 0) : Pg ks (L ++ [p]) ∧ L.map (fun p => p.1.toNat) = (partsL ks s 1 row).map (·.1) := by
  obtain ⟨-, ⟨h1, h2⟩, -⟩ := h
  obtain ⟨c1, c2, c3, c4⟩ := comeS_zero hc
  have hm : L.map (fun p => p.1.toNat) = (partsL ks s 1 row).map (·.1) := by
    refine List.ext_getElem (by simp [h1]) (fun i i1 i2 => ?_)
    simp only [List.length_map] at i1 i2
    rw [List.getElem_map, List.getElem_map, (h2 i i1 i2).1]
    simp
  have hLn : ∀ x ∈ L, ∃ r ∈ partsL ks s 1 row, x.1 = (r.1 : Int) ∧ x.2.2.1 = r.2.length := fun x hx => by
    obtain ⟨i, hi, rfl⟩ := List.getElem_of_mem hx
    obtain ⟨k1, k2⟩ := h2 i hi (by omega)
    refine ⟨_, List.getElem_mem (by omega : i < (partsL ks s 1 row).length), k1, ?_⟩
    obtain ⟨ao, c, e⟩ := own_len k2
    simp only [ptV, Value.slice.injEq] at e
    exact e.2.1
  refine ⟨⟨fun x hx => ?_, ?_⟩, hm⟩
  · rcases List.mem_append.1 hx with hx | hx
    · obtain ⟨r, hr', e1, e2⟩ := hLn x hx
      have m1 := partsL_mem ks s 1 row r hr'
      have m2 := partsL_len ks s 1 row hr r hr'
      refine ⟨by omega, by omega, ?_⟩
      rw [e2, m2, e1]
      simp
    · rw [List.mem_singleton.1 hx]
      exact ⟨c1, c2, c4⟩
  · rw [List.map_append, List.nodup_append]
    refine ⟨?_, by simp, fun x hx y hy e => ?_⟩
    · have : L.map (fun p => p.1.toNat - 1) = (partsL ks s 1 row).map (fun r => r.1 - 1) := by
        have := congrArg (List.map (fun n => n - 1)) hm
        simpa [List.map_map, Function.comp_def] using this
      rw [this]
      refine List.pairwise_map.2 (List.Pairwise.imp_of_mem (fun {x y} hx hy hlt => ?_) (partsL_pair ks s 1 row))
      have a1 := partsL_mem ks s 1 row x hx
      have a2 := partsL_mem ks s 1 row y hy
      omega
    · obtain ⟨z, hz, rfl⟩ := List.mem_map.1 hx
      obtain ⟨r, hr', e1, e2⟩ := hLn z hz
      have m1 := partsL_mem ks s 1 row r hr'
      simp only [List.map_cons, List.map_nil, List.mem_singleton] at hy
      have : r.1 = p.1.toNat := by omega
      rw [this] at m1
      rw [m1.2.2] at c3
      cases c3
theorem set_all {s : Nat} {row : List Int} {L : List Pt} (hsb : Sb ks s) (hm : L.map (fun p => p.1.toNat) = (partsL ks s 1 row).map (·.1)) : setOf L = s := by
  refine Nat.eq_of_testBit_eq (fun k => ?_)
  rw [setOf_bit]
  have h1 : (L.any fun p => p.1.toNat == k) = true ↔ k ∈ L.map (fun p => p.1.toNat) := by
    rw [List.any_eq_true, List.mem_map]
    exact ⟨fun ⟨p, hp, e⟩ => ⟨p, hp, beq_iff_eq.1 e⟩, fun ⟨p, hp, e⟩ => ⟨p, hp, beq_iff_eq.2 e⟩⟩
  have h2 : k ∈ (partsL ks s 1 row).map (·.1) ↔ s.testBit k = true := by
    rw [List.mem_map]
    constructor
    · rintro ⟨r, hr, rfl⟩
      exact (partsL_mem ks s 1 row r hr).2.2
    · intro hk
      have := hsb k hk
      obtain ⟨r, hr, e⟩ := partsL_all ks s 1 row k this.1 (by omega) hk
      exact ⟨r, hr, e⟩
  rw [hm] at h1
  exact Bool.eq_iff_iff.2 (h1.trans h2)
theorem Ap1.made {w5 w6 w9 : World} {B5 s : Nat} {row : List Int} {x : Int} {av a5 : Option Addr} {nv cv c5 g9 c9 : Nat} {L : List Pt} (ho : w5.ownsRow B5 32 2 (.slice a5 L.length c5) L.length (pz L)) (hv : Pv B5 w5 L (partsL ks s 1 row)) (hb : Below w.heap.size w w5) (hB : w.heap.size ≤ B5) (hb6 : Below w5.heap.size w5 w6) (ho9 : w9.ownsRow w.heap.size 32 2 (.slice (some ⟨g9, 0, none⟩) (L.length + 1) c9) (L.length + 1) (pz L ++ [.int .i64 x, .slice av nv cv])) (hg9 : w6.grownBy w9 (Value.slice a5 L.length c5).ownBlock) : Ap1 w w9 ks s row (x, av, nv, cv) (.slice (some ⟨g9, 0, none⟩) (L.length + 1) c9) L := by
  have o6 := own_later ho hb6
  have v6 := hv.later hb6
  refine ⟨?_, ?_, (below_on hb hb6).grown hg9 (below_on hb hb6).size (fun k e => by have := (ho.lt k e).1; omega)⟩
  · rw [pz_snoc, List.length_append]
    exact ho9
  · have := v6.grown hg9 (fun p hp k e e2 => by
      obtain ⟨m, hm, rfl⟩ := List.getElem_of_mem hp
      exact own_kinds (v6.2 m hm (by rw [← v6.1]; exact hm)).2 o6 (by decide) e e2)
    exact ⟨this.1, fun i h1 h2 => ⟨(this.2 i h1 h2).1, own_lower (this.2 i h1 h2).2 hB⟩⟩
/-- What was put on stays while only what is the world's is written; then it is put. -/
theorem Ap1.put {W W' : World} {own1 : Nat → Nat} {s : Nat} {row vals : List Int} {x : Int} {av : Option Addr} {nv cv : Nat} {v : Value} {L : List Pt} (h : Ap1 w W ks s row (x, av, nv, cv) v L) (hr : row.length = fsum ks s 1) (hsb : Sb ks s) (hc : comeS ks s x nv = 0) (hks : ks.length ≤ 12) (hk4 : ∀ x ∈ ks, x.2.length ≤ 4)
    (hvs : Iz w (.slice av nv cv) vals) (hav : av = none → (nv, cv) = (0, 0)) (hv0 : ∀ k, (Value.slice av nv cv).ownBlock = some k → own k = 0 ∧ k < w.heap.size)
    (hX : Wx 0 W' own1 gw vk gp gm gt M ks gs fr f q T) (hK : Wk (rel own w 0) own1 W W') (hw : Wi ks f q T) (a b : Int) (hib : InB (a, b)) (hfn : f (a, b) = none) (hcnt : ∀ E : List (Int × Int), E.Nodup → (∀ e ∈ E, (f e).isSome = true) → E.length < 200) (hM : M ≤ 900000) :
    Calls Tryz.prog 67 #[.pointer (some ⟨gw, 0, none⟩), .agg #[.int .i64 a, .int .i64 b], v] W' fun e w' => e = .returned (.tuple #[]) ∧ ∃ (vals' : List Int) (g : Nat) (own' : Nat → Nat), Wx 0 w' own' gw vk gp gm gt (M + 3) ks gs fr (fun y => if y = (a, b) then some (s ||| 2 ^ x.toNat) else f y) (fun y => if y = s ||| 2 ^ x.toNat then some g else q y) (moreT q T (s ||| 2 ^ x.toNat) (a, b) vals') ∧ Wk own own' w w' ∧ Wi ks (fun y => if y = (a, b) then some (s ||| 2 ^ x.toNat) else f y) (fun y => if y = s ||| 2 ^ x.toNat then some g else q y) (moreT q T (s ||| 2 ^ x.toNat) (a, b) vals') ∧ vals'.length = fsum ks (s ||| 2 ^ x.toNat) 1 ∧ ∀ r, r ∈ partsL ks (s ||| 2 ^ x.toNat) 1 vals' ↔ r ∈ partsL ks s 1 row ∨ r = (x.toNat, vals) := by
  obtain ⟨hpg, hmap⟩ := h.pg hr hc
  obtain ⟨h1, h2, h3⟩ := h
  have hset : setOf (L ++ [(x, av, nv, cv)]) = s ||| 2 ^ x.toNat := by rw [setOf_push, set_all hsb hmap]
  have hnew : ∀ k, w.heap.size ≤ k → rel own w 0 k = 0 := fun k hk => rel_new hk
  have hm := hK.2
  have o1 : W'.ownsRow w.heap.size 32 2 v (L ++ [(x, av, nv, cv)]).length (pz (L ++ [(x, av, nv, cv)])) := hm.own h1 (fun k e e2 => e2.1 (hnew k (h1.lt k e).1))
  have hIzL : ∀ (i : Nat) (i1 : i < L.length) (i2 : i < (partsL ks s 1 row).length), Iz W' (ptV L[i]) (partsL ks s 1 row)[i].2 := fun i i1 i2 => by
    have hb := (h2.2 i i1 i2).2
    exact Iz.own (hm.own hb (fun k e e2 => e2.1 (hnew k (hb.lt k e).1)))
  have hIzp : Iz W' (.slice av nv cv) vals := (hvs.later h3).frame hm (fun k e e2 => e2.1 ((rel_old (hv0 k e).2).trans (hv0 k e).1))
  have hV : ∀ p ∈ L ++ [(x, av, nv, cv)], Iz W' (ptV p) (valsOf W' (ptV p)) ∧ (p.2.1 = none → p.2.2 = (0, 0)) := fun p hp => by
    rcases List.mem_append.1 hp with hp | hp
    · obtain ⟨i, hi, rfl⟩ := List.getElem_of_mem hp
      have i2 : i < (partsL ks s 1 row).length := by rw [← h2.1]; exact hi
      have := hIzL i hi i2
      refine ⟨by rw [this.vals]; exact this, fun e => ?_⟩
      rcases (h2.2 i hi i2).2.2 with ⟨e', -⟩ | ⟨g, c, cur, e', -⟩
      · simp only [ptV, Value.slice.injEq] at e'
        exact Prod.ext e'.2.1 e'.2.2
      · simp only [ptV, Value.slice.injEq] at e'
        rw [e] at e'
        cases e'.1
    · rw [List.mem_singleton.1 hp]
      exact ⟨by rw [show valsOf W' (ptV (x, av, nv, cv)) = vals from hIzp.vals]; exact hIzp, hav⟩
  refine (put_parts hX hw hks hk4 a b hib hfn hcnt hM v (L ++ [(x, av, nv, cv)]) (fun p => valsOf W' (ptV p)) (Rp.own o1) hpg hV).mono ?_
  rintro e w' ⟨rfl, vals', g, own', r1, r2, r3, r4, r5⟩
  rw [hset] at r1 r3 r4 r5
  refine ⟨rfl, vals', g, own', r1, ?_, r3, r4, fun r => ?_⟩
  · exact ((Wk.later h3).trans hK).trans r2
  · rw [r5]
    constructor
    · rintro ⟨p, hp, rfl⟩
      rcases List.mem_append.1 hp with hp | hp
      · obtain ⟨i, hi, rfl⟩ := List.getElem_of_mem hp
        have i2 : i < (partsL ks s 1 row).length := by rw [← h2.1]; exact hi
        left
        rw [(hIzL i hi i2).vals, (h2.2 i hi i2).1]
        exact List.getElem_mem i2
      · rw [List.mem_singleton.1 hp]
        right
        rw [show valsOf W' (ptV (x, av, nv, cv)) = vals from hIzp.vals]
    · rintro (hr' | rfl)
      · obtain ⟨i, hi, rfl⟩ := List.getElem_of_mem hr'
        have i1 : i < L.length := by rw [h2.1]; exact hi
        refine ⟨L[i], List.mem_append_left _ (List.getElem_mem i1), ?_⟩
        rw [(hIzL i i1 hi).vals, (h2.2 i i1 hi).1]
        rfl
      · exact ⟨(x, av, nv, cv), by simp, by rw [show valsOf W' (ptV (x, av, nv, cv)) = vals from hIzp.vals]⟩
end
end Go.Proofs.YtafmiolehlagkaaGreat
