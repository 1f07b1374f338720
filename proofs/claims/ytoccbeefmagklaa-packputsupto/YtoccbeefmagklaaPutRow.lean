import Derived.Test.YtoccbeefmagklaaRuns
namespace Go.Proofs.Ytoccbeefmagklaa
open Go.RowKit

theorem uvarint_zero : Lib.uvarint 0 = [0] := Lib.uvarint_small (by omega)

theorem row_head {w : World} {B : Nat} {v : Value} {l U : List UInt8} {f : Nat} (hf : f < 256)
    (h : w.ownsRow B 5 1 v (l.length + U.length + 1) (Lib.byteCells l ++ Lib.byteCells U ++ [Value.int .u8 (f : Int)])) :
    w.ownsRow B 5 1 v (l.length + U.length + 1) (Lib.byteCells (l ++ (U ++ [UInt8.ofNat f]))) := by
  have e : Lib.byteCells (l ++ (U ++ [UInt8.ofNat f])) = Lib.byteCells l ++ Lib.byteCells U ++ [Value.int .u8 (f : Int)] := by
    have hx : (UInt8.ofNat f).toNat = f := by simp [UInt8.toNat_ofNat']; omega
    simp [Lib.byteCells, hx]
  rw [e]
  exact h
theorem row_done {w : World} {B : Nat} {v : Value} {l U F : List UInt8} {f : UInt8}
    (h : w.ownsRow B 5 1 v (l.length + U.length + 1 + F.length) (Lib.byteCells (l ++ (U ++ [f])) ++ Lib.byteCells F)) :
    w.ownsRow B 5 1 v (l.length + (U ++ (f :: F)).length) (Lib.byteCells (l ++ (U ++ (f :: F)))) := by
  have e1 : l.length + (U ++ (f :: F)).length = l.length + U.length + 1 + F.length := by simp; omega
  have e2 : l ++ (U ++ (f :: F)) = (l ++ (U ++ [f])) ++ F := by simp
  rw [e1, e2, Lib.byteCells_append]
  exact h
theorem body_owned {w : World} {B m : Nat} {v : Value} {X F U : List UInt8}
    (h : w.ownsRow B 5 1 v (m + F.length + U.length) (Lib.byteCells X ++ Lib.byteCells F ++ Lib.byteCells U)) :
    w.ownsRow B 5 1 v (m + (F ++ U).length) (Lib.byteCells X ++ Lib.byteCells (F ++ U)) := by
  rw [List.length_append, ← Nat.add_assoc, Lib.byteCells_append, ← List.append_assoc]
  exact h
set_option maxHeartbeats 4000000 in
set_option maxRecDepth 100000 in
theorem putRow_some (v : Value) (l : List UInt8) (g o c : Nat) (zs : List Int) (w : World) (h : Bs w v l) (hpos : 0 < zs.length) (hz : Rw.AllFit zs) (hl : zs.length ≤ 1048576) (hc : Cells w g o zs) (hlim : l.length + 60000000 ≤ 140737488355328) :
    Calls Try.prog 13 #[v, .slice (some ⟨g, o, none⟩) zs.length c] w fun e w' => ∃ v', e = .returned v' ∧ w'.ownsRow w.heap.size 5 1 v' (l.length + (Rw.rowB zs).length) (Lib.byteCells (l ++ Rw.rowB zs)) ∧ Below w.heap.size w w' := by
  have hg : g < w.heap.size := World.block_lt_of_cell? w _ (hc 0 hpos)
  have hsf := shortest_any g o c zs w hz hl hc
  have hb2 := Rw.best_le zs
  have hfl := Rw.formB_length hz hl (Rw.best zs)
  have hul := Lib.uvarint_length64 (x := zs.length) (by omega)
  have hn := fun w => numberSize_any zs.length w (by omega)
  have E := hide (show Rw.rowB zs = Lib.uvarint zs.length ++ (UInt8.ofNat (Rw.best zs) :: Rw.formB zs (Rw.best zs)) by unfold Rw.rowB; rw [if_neg (by omega)])
  have HH := hide h
  have HZ := hide hz
  have HC := hide hc
  have h0 : ((zs.length : Int) == 0) = false := by rw [beq_eq_false_iff_ne]; omega
  clear h hz hc
  generalize hbf : Rw.best zs = f at *
  generalize hfb : Rw.formB zs f = F at *
  have HF := hide hfb
  clear hfb hbf
  generalize hU : Lib.uvarint zs.length = U at *
  have HU := hide hU
  clear hU
  go_enter Try.func13, Try.ntmps13
  go_wp2_with (first | (go_at_call 38; refine hsf.mono ?_; rintro e w1 ⟨rfl, hd⟩; have HD := hide hd; clear hd) | (go_at_call 36; refine (hn _).mono ?_; rintro e w2 ⟨rfl, rfl⟩))
  have hbs : Bs w2 v l := HH.out.below (below_drew (B := w.heap.size) HD.out) (Nat.le_refl _)
  have hsz : w2.heap.size = w.heap.size := by obtain ⟨d, rfl⟩ := HD.out; rfl
  have HS := hide hsz
  rw [show ((U.length : Int) + 1 + (F.length : Int)) = ((U.length + 1 + F.length : Nat) : Int) by omega]
  refine (withRoom_any v l (U.length + 1 + F.length) w2 hbs (by omega)).mono ?_
  rintro e w3 ⟨rfl, hrow, hb3⟩
  have hown := hrow.owns (B := w2.heap.size) (n := l.length) (Nat.le_refl _) (by simp) (by simp [maxLen]; omega)
  rw [List.take_left, List.length_append, List.length_replicate] at hown
  have ha := appendNumber_any w2.heap.size l.length zs.length (by omega) _ _ w3 hown hb3.size (by omega)
  rw [HU.out] at ha
  have HA := hide ha
  have HB3 := hide hb3
  clear ha hown hrow hb3 hsz hbs hsf
  go_wp2_with fail
  refine HA.out.mono ?_
  rintro e w4 ⟨v4, rfl, hown4, hb4⟩
  have HB4 := hide (HB3.out.trans hb4)
  have hs4 := (HB3.out.trans hb4).size
  clear hb4 HA HB3
  obtain ⟨i0, hi, hz0, hz1, hz2⟩ := info_parts info5
  go_wp2_with (at_builtin; refine wpList_append_own _ rfl _ _ 22 rfl w2.heap.size 5 i0 (.int .u8 0) 1 1 Try.underlying22 hi hz0 hz1 hz2 rfl (by decide) _ _ _ rfl (hown4.alloc _) ⟨w4.heap.size, 0, none⟩ 1 1 [Value.int .u8 (f : Int)] rfl rfl ?c1 ?c2 ?c3 ?c4 ?c5 ?_)
  case c1 => first | exact cell_one_new _ _ _ | (intro j u hj; match j, hj with | 0, hj => simp at hj; subst hj; simp [Addr.add])
  case c2 => intro u hu; simp at hu; subst hu; rfl
  case c3 => unfold maxLen; omega
  case c4 => omega
  case c5 => simp; omega
  intro v5 w5 hown5 hgrow _
  have hb5 : Below w2.heap.size w2 w5 := (HB4.out.alloc hs4 _).grown hgrow (by simp; omega) (fun k hk => (hown4.lt k hk).1)
  rw [← List.append_assoc] at hown5
  have hown6 := row_head (U := U) (f := f) (by omega) hown5
  have HO := hide hown6
  have HB := hide ((below_drew (B := w2.heap.size) HD.out).trans hb5)
  have hs5 := hb5.size
  clear hown4 hown5 hown6 hgrow hb5 HB4
  have hg2 : g < w2.heap.size := by rw [HS.out]; exact hg
  by_cases hf2 : f = 2
  · subst hf2
    have hr := appendRuns_any w2.heap.size _ g o c zs v5 _ w5 HZ.out hl (cells_below HC.out HB.out hg2) hg2 HO.out hs5 (by omega)
    have e : Rw.runsB zs = F := HF.out
    rw [e] at hr
    clear e
    have HR := hide hr
    clear hr
    go_wp2_with fail
    refine HR.out.mono ?_
    rintro e w6 ⟨v6, rfl, hown7, hb7⟩
    have HO7 := hide hown7
    have HB7 := hide (HB.out.trans hb7)
    clear hown7 hb7 HR
    go_wp2
    go_ret
    refine ⟨v6, rfl, ?_, HS.out ▸ HB7.out⟩
    rw [E.out, ← HS.out]
    exact row_done HO7.out
  · have hf2' : ((f : Int) == 2) = false := by rw [beq_eq_false_iff_ne]; omega
    have e : F = Rw.bodyTo zs f zs.length := by rw [← HF.out]; unfold Rw.formB; rw [if_neg hf2]
    have HE := hide e
    clear e
    go_wp2
    go_loopw [8, 44] (fun v i wr => ∃ k : Nat, k ≤ zs.length ∧ i = .int .i64 k ∧ wr.ownsRow w2.heap.size 5 1 v (l.length + U.length + 1 + (Rw.bodyTo zs f k).length) (Lib.byteCells (l ++ (U ++ [UInt8.ofNat f])) ++ Lib.byteCells (Rw.bodyTo zs f k)) ∧ Below w2.heap.size w wr ∧ w2.heap.size ≤ wr.heap.size) (fun _ i _ => zs.length - (intOf i).toNat)
    case atStart => exact ⟨0, Nat.zero_le _, rfl, by simpa [Rw.bodyTo, Lib.byteCells] using HO.out, HB.out, hs5⟩
    case round =>
      obtain ⟨k, hk, rfl, ho, hb, hsr⟩ := hrel
      have HO8 := hide ho
      have HB8 := hide hb
      clear ho hb
      have b1 := Rw.bodyTo_length HZ.out f k
      by_cases hlt : k < zs.length
      · have hce := entry_any g o c k f zs wr hlt (by omega) (by omega) (cells_below HC.out HB8.out hg2)
        have hfit := Rw.entry_fits HZ.out k f
        have hbd := hide (show Rw.bodyTo zs f (k + 1) = Rw.bodyTo zs f k ++ Lib.uvarint (Lib.zigzag (Rw.entry zs k f)) from rfl)
        generalize Rw.entry zs k f = x at *
        have hfo := fun w => fold_any x w hfit.1 hfit.2
        go_wp2_with (first | (go_at_call 40; refine hce.mono ?_; rintro e w7 ⟨rfl, hd⟩; have HD7 := hide hd; clear hd) | (go_at_call 37; refine (hfo _).mono ?_; rintro e w8 ⟨rfl, rfl⟩))
        refine (appendNumber_any w2.heap.size _ (Lib.zigzag x) (Lib.zigzag_lt hfit.1 hfit.2) _ _ _ (owns_drew HO8.out HD7.out) (Nat.le_trans hsr (below_drew (B := 0) HD7.out).size) (by omega)).mono ?_
        rintro e w9 ⟨v9, rfl, hown9, hb9⟩
        have HO9 := hide hown9
        have HB9 := hide ((HB8.out.trans (below_drew HD7.out)).trans hb9)
        have hs9 := Nat.le_trans (Nat.le_trans hsr (below_drew (B := 0) HD7.out).size) hb9.size
        clear hown9 hb9
        go_wp2
        refine ⟨⟨k + 1, by omega, by go_num, ?_, HB9.out, hs9⟩, by simp [intOf]; omega⟩
        rw [hbd.out]
        exact body_owned HO9.out
      · obtain rfl : k = zs.length := by omega
        go_wp2
        go_ret
        refine ⟨_, rfl, ?_, HS.out ▸ HB8.out⟩
        rw [E.out, ← HS.out, HE.out]
        exact row_done HO8.out

set_option maxHeartbeats 1000000 in
set_option maxRecDepth 100000 in
theorem putRow_none (v : Value) (l : List UInt8) (ao : Option Addr) (c : Nat) (w : World) (h : Bs w v l) (hlim : l.length + 60000000 ≤ 140737488355328) :
    Calls Try.prog 13 #[v, .slice ao 0 c] w fun e w' => ∃ v', e = .returned v' ∧ w'.ownsRow w.heap.size 5 1 v' (l.length + (Rw.rowB []).length) (Lib.byteCells (l ++ Rw.rowB [])) ∧ Below w.heap.size w w' := by
  have hp := put_any v l 0 w h (by omega) (by omega)
  rw [uvarint_zero] at hp
  have hp' : Calls Try.prog 10 #[v, .int .u64 0] w fun e w' => ∃ v', e = .returned v' ∧ w'.ownsRow w.heap.size 5 1 v' (l.length + 1) (Lib.byteCells (l ++ [0])) ∧ Below w.heap.size w w' := hp
  have H := hide hp'
  clear hp hp' h
  go_enter Try.func13, Try.ntmps13
  go_wp2_with (go_at_call 10; refine H.out.mono ?_; rintro e w1 ⟨v2, rfl, hown, hb1⟩)
  go_ret
  exact ⟨v2, rfl, hown, hb1⟩

/-- PutRow. -/
theorem putRow_any (v vl : Value) (l : List UInt8) (zs : List Int) (w : World) (h : Bs w v l) (hn : Ns w vl zs) (hz : Rw.AllFit zs) (hl : zs.length ≤ 1048576) (hlim : l.length + 60000000 ≤ 140737488355328) :
    Calls Try.prog 13 #[v, vl] w fun e w' => ∃ v', e = .returned v' ∧ w'.ownsRow w.heap.size 5 1 v' (l.length + (Rw.rowB zs).length) (Lib.byteCells (l ++ Rw.rowB zs)) ∧ Below w.heap.size w w' := by
  rcases hn.parts with ⟨ao, c, rfl, rfl⟩ | ⟨g, o, c, rfl, hpos, _, _, hc⟩
  · exact putRow_none v l ao c w h hlim
  · exact putRow_some v l g o c zs w h hpos hz hl hc hlim
end Go.Proofs.Ytoccbeefmagklaa
