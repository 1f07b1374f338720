import Derived.Test.YtafmiolehlagkaaGreatNm1
import Derived.Test.YtafmiolehlagkaaGreatNm5
import Derived.Maps.Ext
import Derived.Maps.AppendAt
import Derived.Test.YtafmiolehlagkaaGreatNm3
/-
  World: a pair of worlds is made (the law's made): the program's and the document's.
-/
namespace Go.Proofs.YtafmiolehlagkaaGreat
open Go.RowKit
set_option maxRecDepth 100000
/-- The document's pool of nobody; its world of nobody. -/
def Dp0 (w : World) (g : Nat) : Prop := w.heap[g]? = some (.cells #[.int .i64 200, .slice none 0 0, .slice none 0 0, .slice none 0 0] 214 (0, 0))
def Dw0 (w : World) (g : Nat) : Prop := ∃ vk gd, w.heap[g]? = some (.cells #[vk, .pointer (some ⟨gd, 0, none⟩), .slice none 0 0] 123 (0, 0)) ∧ Dp0 w gd
set_option maxHeartbeats 2000000 in
theorem dids_new (w : World) : Calls Tryz.prog 93 #[.int .i64 200] w fun e w' => e = .returned (.tuple #[.pointer (some ⟨w.heap.size, 0, none⟩), .int .i64 0]) ∧ Dp0 w' w.heap.size ∧ Below w.heap.size w w' := by
  go_enter Tryz.func93, Tryz.ntmps93
  go_wp2_with fail
  go_ret2
  exact ⟨rfl, heap_alloc_new w _, below_alloc w _⟩
set_option maxHeartbeats 4000000 in
theorem dnew_bad {w : World} {v : Value} {ks : List Kind} (h : Kr w v ks) (hz : Sz ks) (hm : ¬ mayB ks) : Calls Tryz.prog 38 #[v] w fun e w' => e = .returned (.tuple #[.pointer none, .int .i64 65]) ∧ Below w.heap.size w w' := by
  have JM : Hid (Calls Tryz.prog 92 #[v] w fun e w' => e = .returned (.bool false) ∧ Below w.heap.size w w') := (dmaybe_any h hz).mono (fun _e _w' ⟨⟨b, k1, k2⟩, k3⟩ => ⟨by
    rw [k1]
    cases b with
    | true => exact absurd (k2.1 rfl) hm
    | false => rfl, k3⟩)
  obtain ⟨ao, c, rfl, -⟩ := h
  clear hm
  go_enter Tryz.func38, Tryz.ntmps38
  go_wp2_with fail
  refine JM.out.mono ?_
  rintro e w1 ⟨rfl, hb⟩
  have HB := hide hb
  clear hb JM
  go_wp2_with fail
  go_ret2
  exact ⟨rfl, HB.out⟩
set_option maxHeartbeats 4000000 in
theorem dnew_any {w : World} {v : Value} {ks : List Kind} (h : Kr w v ks) (hz : Sz ks) (hm : mayB ks) : Calls Tryz.prog 38 #[v] w fun e w' => ∃ gb, e = .returned (.tuple #[.pointer (some ⟨gb, 0, none⟩), .int .i64 0]) ∧ w.heap.size ≤ gb ∧ (∃ vk gd, w.heap.size ≤ gd ∧ w'.heap[gb]? = some (.cells #[vk, .pointer (some ⟨gd, 0, none⟩), .slice none 0 0] 123 (0, 0)) ∧ Dp0 w' gd) ∧ Below w.heap.size w w' := by
  have JM : Hid (Calls Tryz.prog 92 #[v] w fun e w' => e = .returned (.bool true) ∧ Below w.heap.size w w') := (dmaybe_any h hz).mono (fun _e _w' ⟨⟨b, k1, k2⟩, k3⟩ => ⟨by rw [k1, k2.2 hm], k3⟩)
  have JK : Hid (∀ W, Below w.heap.size w W → Calls Tryz.prog 94 #[v] W fun e w' => ∃ v', e = .returned v' ∧ Ko W.heap.size w' v' ks ∧ Below W.heap.size W w') := fun W hW => dcopied_kinds (h.later hW) hz
  obtain ⟨ao, c, rfl, -⟩ := h
  clear hm
  go_enter Tryz.func38, Tryz.ntmps38
  go_wp2_with fail
  refine JM.out.mono ?_
  rintro e w1 ⟨rfl, hb⟩
  have HB1 := hide hb
  clear hb JM
  go_wp2_with fail
  refine (dids_new _).mono ?_
  rintro e w2 ⟨rfl, hp, hb⟩
  have HB2 := hide hb
  have HP := hide hp
  clear hp hb
  go_wp2_with fail
  refine (JK.out _ (below_on HB1.out HB2.out)).mono ?_
  rintro e w3 ⟨vk, rfl, hk, hb⟩
  have HB3 := hide hb
  clear hb JK
  obtain ⟨L, hk, -⟩ := hk
  obtain ⟨ak, ck, rfl⟩ := own_len hk
  clear hk
  go_wp2_with fail
  go_ret2
  refine ⟨_, rfl, (below_on (below_on HB1.out HB2.out) HB3.out).size, ⟨_, w1.heap.size, HB1.out.size, heap_alloc_new w3 _, ?_⟩, below_on (below_on (below_on HB1.out HB2.out) HB3.out) (below_alloc w3 _)⟩
  exact (((below_on HB3.out (below_alloc w3 _)).block _ (lt_of_block HP.out)).trans HP.out)
/-- A pair of worlds of nobody, behind nothing. -/
def Pr0 (w : World) (gp gw gb : Nat) (v : Value) : Prop := w.heap[gp]? = some (.cells #[.pointer (some ⟨gw, 0, none⟩), .pointer (some ⟨gb, 0, none⟩), v, .slice none 0 0, .slice none 0 0, .slice none 0 0, .slice none 0 0, .slice none 0 0, .slice none 0 0, .slice none 0 0, .slice none 0 0, .slice none 0 0, .int .i64 0, .int .i64 0, .int .i64 0] 49 (0, 0))
set_option maxHeartbeats 8000000 in
theorem made_bad {w : World} {v : Value} {ks : List Kind} (h : Kr w v ks) (hz : Sz ks) (hm : ¬ mayB ks) : Calls Tryz.prog 10 #[v] w fun e w' => e = .returned (.tuple #[.pointer none, .bool true]) ∧ Below w.heap.size w w' := by
  have HK := hide h
  have HM := hide hm
  have HZ := hide hz
  have JL := hide (lent_kinds h hz)
  obtain ⟨ao, c, rfl, -⟩ := h
  clear hm
  go_enter Tryz.func10, Tryz.ntmps10
  go_wp2_with fail
  refine JL.out.mono ?_
  rintro e w1 ⟨vl, rfl, hl, hb⟩
  have HB1 := hide hb
  have HL := hide hl
  clear hb JL
  have JN := hide (wnew_bad hl.kr HM.out)
  obtain ⟨g1, c1, L, rfl, -⟩ := hl
  go_wp2_with fail
  refine JN.out.mono ?_
  rintro e w2 ⟨rfl, hb⟩
  have HB2 := hide hb
  clear hb JN
  have JS := hide (still_kinds HL.out HZ.out HB2.out (fun W hW => (HK.out.later (hW.below (B := w.heap.size) (below_on HB1.out HB2.out).size (fun k e => e.1) |> fun q => (below_on HB1.out HB2.out).trans q))))
  go_wp2_with fail
  refine JS.out.mono ?_
  rintro e w3 ⟨rfl, hm3⟩
  have HB3 : Hid (Below w.heap.size w w3) := (below_on HB1.out HB2.out).trans (hm3.below (below_on HB1.out HB2.out).size (fun k e => e.1))
  clear hm3 JS
  have JD := hide (dnew_bad (HK.out.later HB3.out) HZ.out HM.out)
  go_wp2_with fail
  refine JD.out.mono ?_
  rintro e w4 ⟨rfl, hb⟩
  have HB4 := hide (below_on HB3.out hb)
  clear hb JD
  go_wp2_with fail
  go_ret2
  exact ⟨rfl, HB4.out⟩
set_option maxHeartbeats 8000000 in
theorem made_any {w : World} {v : Value} {ks : List Kind} (h : Kr w v ks) (hz : Sz ks) (hm : mayB ks) : Calls Tryz.prog 10 #[v] w fun e w' => ∃ gp gw gb, e = .returned (.tuple #[.pointer (some ⟨gp, 0, none⟩), .bool true]) ∧ (w.heap.size ≤ gp ∧ Pr0 w' gp gw gb v) ∧ (∃ own, Wn w' own gw 0 ks [] [] (fun _ => none)) ∧ (w.heap.size ≤ gb ∧ Dw0 w' gb) ∧ Below w.heap.size w w' := by
  have HK := hide h
  have HM := hide hm
  have HZ := hide hz
  have JL := hide (lent_kinds h hz)
  obtain ⟨ao, c, rfl, -⟩ := h
  clear hm
  go_enter Tryz.func10, Tryz.ntmps10
  go_wp2_with fail
  refine JL.out.mono ?_
  rintro e w1 ⟨vl, rfl, hl, hb⟩
  have HB1 := hide hb
  have HL := hide hl
  clear hb JL
  have JN := hide (wn_new hl.kr HM.out)
  obtain ⟨g1, c1, L, rfl, -⟩ := hl
  go_wp2_with fail
  refine JN.out.mono ?_
  rintro e w2 ⟨gw, rfl, ⟨own, ho, hW⟩, hb⟩
  have HB2 := hide hb
  have HW2 := hide hW
  have HOW := hide ho
  clear hb JN ho hW
  have JS := hide (still_kinds HL.out HZ.out HB2.out (fun W hW => (HK.out.later (hW.below (B := w.heap.size) (below_on HB1.out HB2.out).size (fun k e => e.1) |> fun q => (below_on HB1.out HB2.out).trans q))))
  go_wp2_with fail
  refine JS.out.mono ?_
  rintro e w3 ⟨rfl, hm3⟩
  have HB3 : Hid (Below w.heap.size w w3) := (below_on HB1.out HB2.out).trans (hm3.below (below_on HB1.out HB2.out).size (fun k e => e.1))
  have HW3 := hide (HW2.out.frame hm3 (fun k _ e => HOW.out k e.2))
  clear hm3 JS
  have JD := hide (dnew_any (HK.out.later HB3.out) HZ.out HM.out)
  go_wp2_with fail
  refine JD.out.mono ?_
  rintro e w4 ⟨gb, rfl, hgb, ⟨vk, gd, hgd, hd1, hd2⟩, hb⟩
  have HB4 := hide (below_on HB3.out hb)
  have HW4 := hide (HW3.out.later hb)
  have HG : Hid (w.heap.size ≤ gb) := Nat.le_trans HB3.out.size hgb
  have HD : Hid (Dw0 w4 gb) := ⟨vk, gd, hd1, hd2⟩
  clear hb JD hgb hgd hd1 hd2
  go_wp2_with fail
  go_ret2
  refine ⟨_, gw, gb, rfl, ⟨HB4.out.size, heap_alloc_new w4 _⟩, ⟨_, HW4.out.later (below_alloc w4 _)⟩, ⟨HG.out, ?_⟩, below_on HB4.out (below_alloc w4 _)⟩
  obtain ⟨vk, gd, e1, e2⟩ := HD.out
  exact ⟨vk, gd, ((below_alloc w4 _).block _ (lt_of_block e1)).trans e1, ((below_alloc w4 _).block _ (lt_of_block e2)).trans e2⟩
end Go.Proofs.YtafmiolehlagkaaGreat

/-
  World: the book of lists that came out, while all of them are empty: rows.
-/
namespace Go.Proofs.YtafmiolehlagkaaGreat
open Go.RowKit
set_option maxRecDepth 100000
theorem infoL : (Tryz.prog.info? 78).map (fun i => (i.zero, i.size, i.bytes)) = some (some (.slice none 0 0), 1, 24) := by kernel_rfl
theorem infoI : (Tryz.prog.info? 3).map (fun i => (i.zero, i.size, i.bytes)) = some (some (.int .i64 0), 1, 8) := by kernel_rfl
theorem under44 : Tryz.prog.underlying 44 = some (.slice 78) := by kernel_rfl
theorem under45 : Tryz.prog.underlying 45 = some (.slice 3) := by kernel_rfl
theorem under78 : Tryz.prog.underlying 78 = some (.slice 87) := by kernel_rfl
/-- A pair whose book has lists of rows alone. -/
def Pb (w : World) (gp gw gb : Nat) (v vr vz : Value) (k : Nat) : Prop := w.heap[gp]? = some (.cells #[.pointer (some ⟨gw, 0, none⟩), .pointer (some ⟨gb, 0, none⟩), v, .slice none 0 0, .slice none 0 0, .slice none 0 0, .slice none 0 0, .slice none 0 0, vr, .slice none 0 0, .slice none 0 0, vz, .int .i64 0, .int .i64 0, .int .i64 (k : Int)] 49 (0, 0))
section
variable {w w' : World} {gp gw gb n k : Nat} {v vr vz : Value}
theorem Pb.cell (h : Pb w gp gw gb v vr vz k) : w.cell? ⟨gp, 0, none⟩ = some (.pointer (some ⟨gw, 0, none⟩)) ∧ w.cell? ⟨gp, 1, none⟩ = some (.pointer (some ⟨gb, 0, none⟩)) ∧ w.cell? ⟨gp, 2, none⟩ = some v ∧ w.cell? ⟨gp, 6, none⟩ = some (.slice none 0 0) ∧ w.cell? ⟨gp, 7, none⟩ = some (.slice none 0 0) ∧ w.cell? ⟨gp, 8, none⟩ = some vr ∧ w.cell? ⟨gp, 11, none⟩ = some vz ∧ w.cell? ⟨gp, 12, none⟩ = some (.int .i64 0) ∧ w.cell? ⟨gp, 13, none⟩ = some (.int .i64 0) ∧ w.cell? ⟨gp, 14, none⟩ = some (.int .i64 (k : Int)) := by
  refine ⟨?_, ?_, ?_, ?_, ?_, ?_, ?_, ?_, ?_, ?_⟩ <;> rw [cell_of_row w gp _ _ 49 (0, 0) h] <;> rfl
theorem Pb.fz (h : Pb w gp gw gb v vr vz k) (j : Nat) : w.frozen? ⟨gp, j, none⟩ = false := frozen_of_row w gp j _ 49 h
theorem Pb.mv {S : Nat → Prop} (h : Pb w gp gw gb v vr vz k) (hm : Mv w w' S) (hs : ¬ S gp) : Pb w' gp gw gb v vr vz k := hm.at h hs
theorem Pb.later (h : Pb w gp gw gb v vr vz k) (hb : Below w.heap.size w w') : Pb w' gp gw gb v vr vz k := (hb.block gp (lt_of_block h)).trans h
theorem Pb.kept {row : Option Nat} (h : Pb w gp gw gb v vr vz k) (hg : w.grownBy w' row) (hr : row ≠ some gp) : Pb w' gp gw gb v vr vz k := (hg.block gp (lt_of_block h) (fun e => hr e.symm)).trans h
theorem Pb.setR (h : Pb w gp gw gb v vr vz k) (u : Value) : Pb (w.setCell ⟨gp, 8, none⟩ u) gp gw gb v u vz k := heap_setCell_same w gp 8 _ 49 u h
theorem Pb.setZ (h : Pb w gp gw gb v vr vz k) (u : Value) : Pb (w.setCell ⟨gp, 11, none⟩ u) gp gw gb v vr u k := heap_setCell_same w gp 11 _ 49 u h
theorem Pb.setI (h : Pb w gp gw gb v vr vz k) : Pb (w.setCell ⟨gp, 12, none⟩ (.int .i64 0)) gp gw gb v vr vz k := heap_setCell_same w gp 12 _ 49 _ h
theorem Pb.setJ (h : Pb w gp gw gb v vr vz k) : Pb (w.setCell ⟨gp, 13, none⟩ (.int .i64 0)) gp gw gb v vr vz k := heap_setCell_same w gp 13 _ 49 _ h
theorem Pb.setK (h : Pb w gp gw gb v vr vz k) (m : Nat) : Pb (w.setCell ⟨gp, 14, none⟩ (.int .i64 (m : Int))) gp gw gb v vr vz m := heap_setCell_same w gp 14 _ 49 _ h
end
/-- The book's two lists. -/
def Bl (B : Nat) (w : World) (gp gw gb : Nat) (v : Value) (k n : Nat) (xs zs : List Value) : Prop := ∃ vr vz, Pb w gp gw gb v vr vz k ∧ w.ownsRow B 78 1 vr n xs ∧ w.ownsRow B 3 1 vz n zs
theorem own_other {B : Nat} {w : World} {e s n g : Nat} {v : Value} {xs : List Value} (h : w.ownsRow B e s v n xs) (hg : g < B) : v.ownBlock ≠ some g := fun e' => by have := (h.lt g e').1; omega
set_option maxHeartbeats 8000000 in
theorem rows_none {B : Nat} {w : World} {gp gw gb k n : Nat} {v : Value} {xs zs : List Value} (h : Bl B w gp gw gb v k n xs zs) (hgp : gp < B) (hB : B ≤ w.heap.size) (hn : n ≤ 100) (al : Option Addr) (cl : Nat) :
    Calls Tryz.prog 60 #[.pointer (some ⟨gp, 6, none⟩), .slice al 0 cl] w fun e w' => e = .returned (.tuple #[]) ∧ Bl B w' gp gw gb v k (n + 1) (xs ++ [.slice al 0 cl]) (zs ++ [.int .i64 (1000000 + n : Nat)]) ∧ Mv w w' (fun q => q = gp ∨ B ≤ q) := by
  obtain ⟨i0, hi0, hz0, hz1, hz2⟩ := info_parts infoL
  obtain ⟨i3, hi3, hx0, hx1, hx2⟩ := info_parts infoI
  obtain ⟨vr, vz, hp, hr, hz⟩ := h
  obtain ⟨-, -, -, -, -, c8, -, -, -, -⟩ := hp.cell
  have HP := hide hp
  have HR := hide hr
  have HZ := hide hz
  obtain ⟨ar, cr, rfl⟩ := own_len hr
  have tw : IntKind.i64.wrap (1000000 + (n : Int)) = ((1000000 + n : Nat) : Int) := by rw [IntKind.wrap_i64]; omega
  clear hp hr hz
  go_enter Tryz.func60, Tryz.ntmps60
  go_wp2_with fail
  go_loopw [5] (fun v5 W => v5 = .int .i64 0 ∧ Hid (W = w)) (fun _ _ => 0)
  case atStart => exact ⟨rfl, rfl⟩
  case round =>
    obtain ⟨rfl, HW⟩ := hrel
    obtain rfl := HW.out
    have t1 : ¬ (0 : Int) < (0 : Int) := by omega
    have HO : Hid (∀ o, (wr.alloc o).ownsRow B 78 1 (.slice ar n cr) n xs) := fun o => HR.out.alloc o
    go_wp2_with (at_builtin; refine wpList_append_own_at _ rfl _ _ 44 rfl B 78 i0 (.slice none 0 0) 1 24 under44 hi0 hz0 hz1 hz2 rfl (by decide) _ n xs rfl (HO.out _) ⟨wr.heap.size, 0, none⟩ 1 1 [.slice al 0 cl] rfl rfl ?c1 ?c2 (by unfold maxLen; omega) (by omega) ?c5 ?_)
    case c2 => first | (intro u hu; simp at hu; subst hu; rfl) | exact rfl
    case c5 => first | omega | (simp; omega)
    intro v2 w2 o2 g2 _ _
    have M2 : Hid (Mv wr w2 (fun q => q = gp ∨ B ≤ q)) := ((Mv.refl _ _).alloc _).grown g2 (fun q _ e => .inr (HR.out.lt q e).1)
    have P2 := hide ((HP.out.later (below_alloc wr _)).kept g2 (own_other HR.out hgp))
    have Z2 : Hid (w2.ownsRow B 3 1 vz n zs) := own_kept (HZ.out.alloc _) g2 (fun q e e' => own_kinds HZ.out HR.out (by decide) e e')
    have k8 := P2.out.cell.2.2.2.2.2.1
    have f8 := P2.out.fz 8
    have O2 := hide o2
    obtain ⟨g9, c9, rfl, y1, y2⟩ := own_form o2 (by omega)
    obtain ⟨w3, hw3⟩ : ∃ X, X = w2.setCell ⟨gp, 8, none⟩ (.slice (some ⟨g9, 0, none⟩) (n + 1) c9) := ⟨_, rfl⟩
    have M3 : Hid (Mv wr w3 (fun q => q = gp ∨ B ≤ q)) := by rw [hw3]; exact M2.out.set (g := gp) (.inl rfl) _ _
    have P3 : Hid (Pb w3 gp gw gb v (.slice (some ⟨g9, 0, none⟩) (n + 1) c9) vz k) := by rw [hw3]; exact P2.out.setR _
    have R3 : Hid (w3.ownsRow B 78 1 (.slice (some ⟨g9, 0, none⟩) (n + 1) c9) (n + 1) (xs ++ [.slice al 0 cl])) := by rw [hw3]; exact own_set O2.out (own_other O2.out hgp)
    have Z3 : Hid (w3.ownsRow B 3 1 vz n zs) := by rw [hw3]; exact own_set Z2.out (own_other Z2.out hgp)
    clear o2 g2 O2 Z2
    go_upto_region 7 with fail
    rw [← hw3]
    have k11 := P3.out.cell.2.2.2.2.2.2.1
    obtain ⟨az, cz, rfl⟩ := own_len Z3.out
    have HS : Hid (B ≤ w3.heap.size) := Nat.le_trans hB M3.out.size
    clear hw3 P2 M2 k8 f8 HP HR HZ HO c8
    go_wp2_with (at_builtin; refine wpList_append_own_at _ rfl _ _ 45 rfl B 3 i3 (.int .i64 0) 1 8 under45 hi3 hx0 hx1 hx2 rfl (by decide) _ n zs rfl (Z3.out.alloc _) ⟨w3.heap.size, 0, none⟩ 1 1 [.int .i64 (1000000 + n : Nat)] rfl rfl ?d1 ?d2 (by unfold maxLen; omega) (by omega) ?d5 ?_)
    case d1 => intro j u hj; match j, hj with | 0, hj => simp at hj; subst hj; simp [Addr.add]
    case d2 => first | (intro u hu; simp at hu; subst hu; rfl) | exact rfl
    case d5 => have := HS.out; first | omega | (simp; omega)
    intro v4 w4 o4 g4 _ _
    have M4 : Hid (Mv wr w4 (fun q => q = gp ∨ B ≤ q)) := (M3.out.alloc _).grown g4 (fun q _ e => .inr (Z3.out.lt q e).1)
    have P4 := hide ((P3.out.later (below_alloc w3 _)).kept g4 (own_other Z3.out hgp))
    have R4 := hide (own_kept (R3.out.alloc _) g4 (fun q e e' => own_kinds R3.out Z3.out (by decide) e e'))
    have k11' := P4.out.cell.2.2.2.2.2.2.1
    have f11 := P4.out.fz 11
    obtain ⟨ge, ce, rfl, y3, y4⟩ := own_form o4 (by omega)
    have O4 := hide o4
    clear o4 g4
    go_wp2_with fail
    go_end0
    refine ⟨rfl, ⟨_, _, P4.out.setZ _, own_set R4.out (own_other R4.out hgp), own_set O4.out (own_other O4.out hgp)⟩, M4.out.set (g := gp) (.inl rfl) _ _⟩
end Go.Proofs.YtafmiolehlagkaaGreat

/-
  World: the document's world of nobody: Rows, Shapes, Snapshot.
-/
namespace Go.Proofs.YtafmiolehlagkaaGreat
open Go.RowKit
set_option maxRecDepth 100000
theorem infoB5 : (Tryz.prog.info? 5).map (fun i => (i.zero, i.size, i.bytes)) = some (some (.int .u8 0), 1, 1) := by kernel_rfl
theorem under51 : Tryz.prog.underlying 51 = some (.slice 5) := by kernel_rfl
theorem under45' : Tryz.prog.underlying 45 = some (.slice 3) := by kernel_rfl
theorem Dw0.cell {w : World} {g : Nat} (h : Dw0 w g) : ∃ gd, w.cell? ⟨g, 1, none⟩ = some (.pointer (some ⟨gd, 0, none⟩)) ∧ w.cell? ⟨g, 2, none⟩ = some (.slice none 0 0) ∧ w.cell? ⟨gd, 1, none⟩ = some (.slice none 0 0) ∧ w.cell? ⟨gd, 3, none⟩ = some (.slice none 0 0) := by
  obtain ⟨vk, gd, h1, h2⟩ := h
  refine ⟨gd, ?_, ?_, ?_, ?_⟩
  · rw [cell_of_row w g _ _ 123 (0, 0) h1]; rfl
  · rw [cell_of_row w g _ _ 123 (0, 0) h1]; rfl
  · rw [cell_of_row w gd _ _ 214 (0, 0) h2]; rfl
  · rw [cell_of_row w gd _ _ 214 (0, 0) h2]; rfl
theorem Dw0.later {w w' : World} {g : Nat} (h : Dw0 w g) (hb : Below w.heap.size w w') : Dw0 w' g := by
  obtain ⟨vk, gd, h1, h2⟩ := h
  exact ⟨vk, gd, (hb.block g (lt_of_block h1)).trans h1, (hb.block gd (lt_of_block h2)).trans h2⟩
set_option maxHeartbeats 4000000 in
theorem drows0 {w : World} {g : Nat} (h : Dw0 w g) : Calls Tryz.prog 54 #[.pointer (some ⟨g, 0, none⟩)] w fun e w' => e = .returned (.slice none 0 0) ∧ w' = w := by
  obtain ⟨gd, -, c2, -, -⟩ := h.cell
  clear h
  go_enter Tryz.func54, Tryz.ntmps54
  go_wp2_with fail
  go_loopw [3, 4] (fun v3 v4 W => v3 = .slice none 0 0 ∧ v4 = .int .i64 0 ∧ Hid (W = w)) (fun _ _ _ => 0)
  case atStart => exact ⟨rfl, rfl, rfl⟩
  case round =>
    obtain ⟨rfl, rfl, HW⟩ := hrel
    have hW := HW.out
    subst wr
    have t1 : ¬ (0 : Int) < (0 : Int) := by omega
    go_wp2_with fail
    go_ret
    exact ⟨rfl, rfl⟩
set_option maxHeartbeats 4000000 in
theorem dshapes0 {w : World} {g : Nat} (h : Dw0 w g) : Calls Tryz.prog 55 #[.pointer (some ⟨g, 0, none⟩)] w fun e w' => e = .returned (.slice none 0 0) ∧ w' = w := by
  obtain ⟨gd, -, c2, -, -⟩ := h.cell
  clear h
  go_enter Tryz.func55, Tryz.ntmps55
  go_wp2_with fail
  go_loopw [3, 4] (fun v3 v4 W => v3 = .slice none 0 0 ∧ v4 = .int .i64 0 ∧ Hid (W = w)) (fun _ _ _ => 0)
  case atStart => exact ⟨rfl, rfl, rfl⟩
  case round =>
    obtain ⟨rfl, rfl, HW⟩ := hrel
    have hW := HW.out
    subst wr
    have t1 : ¬ (0 : Int) < (0 : Int) := by omega
    go_wp2_with fail
    go_ret
    exact ⟨rfl, rfl⟩
set_option maxHeartbeats 4000000 in
theorem dlongs0 (w : World) : Calls Tryz.prog 169 #[.slice none 0 0] w fun e w' => e = .returned (.slice none 0 0) ∧ w' = w := by
  go_enter Tryz.func169, Tryz.ntmps169
  go_wp2_with fail
  go_loopw [3, 4] (fun v3 v4 W => v3 = .slice none 0 0 ∧ v4 = .int .i64 0 ∧ Hid (W = w)) (fun _ _ _ => 0)
  case atStart => exact ⟨rfl, rfl, rfl⟩
  case round =>
    obtain ⟨rfl, rfl, HW⟩ := hrel
    have hW := HW.out
    subst wr
    have t1 : ¬ (0 : Int) < (0 : Int) := by omega
    go_wp2_with fail
    go_ret
    exact ⟨rfl, rfl⟩
set_option maxHeartbeats 4000000 in
theorem dstate0 {w : World} {gd : Nat} (c1 : w.cell? ⟨gd, 1, none⟩ = some (.slice none 0 0)) (c3 : w.cell? ⟨gd, 3, none⟩ = some (.slice none 0 0)) : Calls Tryz.prog 167 #[.pointer (some ⟨gd, 0, none⟩)] w fun e w' => e = .returned (.tuple #[.slice none 0 0, .slice none 0 0]) ∧ w' = w := by
  obtain ⟨i3, hi3, hx0, hx1, hx2⟩ := info_parts infoI
  go_enter Tryz.func167, Tryz.ntmps167
  go_wp2_with fail
  go_loopw [4, 6] (fun v4 v6 W => v4 = .slice none 0 0 ∧ v6 = .int .i64 0 ∧ Hid (W = w)) (fun _ _ _ => 0)
  case atStart => exact ⟨rfl, rfl, rfl⟩
  case round =>
    obtain ⟨rfl, rfl, HW⟩ := hrel
    have hW := HW.out
    subst wr
    have t1 : ¬ (0 : Int) < (0 : Int) := by omega
    go_wp2_with (at_builtin; refine wpList_append_own_none rfl _ _ 45 rfl w.heap.size 3 i3 1 under45' hi3 _ 0 [] rfl (World.ownsRow_nil _ _ _ _) rfl ?_)
    go_wp2_with fail
    go_ret2
    exact ⟨rfl, rfl⟩
theorem bq_push (l : List UInt8) (b : UInt8) : Lib.byteCells (l ++ [b]) = Lib.byteCells l ++ [.int .u8 (b.toNat : Int)] := by simp [Lib.byteCells]
theorem bq_len (l : List UInt8) : (Lib.byteCells l).length = l.length := by simp [Lib.byteCells]
theorem bq_one (l : List UInt8) : ∀ u ∈ Lib.byteCells l, u.oneCell' = true := by
  intro u hu
  simp only [Lib.byteCells, List.mem_map] at hu
  obtain ⟨x, -, rfl⟩ := hu
  rfl
set_option maxHeartbeats 8000000 in
theorem dput0 {B : Nat} {w : World} {v : Value} {l : List UInt8} (h : w.ownsRow B 5 1 v l.length (Lib.byteCells l)) (hl : l.length ≤ 100) : Calls Tryz.prog 122 #[v, .int .u64 0] w fun e w' => ∃ v', e = .returned v' ∧ w'.ownsRow w.heap.size 5 1 v' (l.length + 1) (Lib.byteCells (l ++ [0])) ∧ Below w.heap.size w w' := by
  obtain ⟨i5, hi5, hx0, hx1, hx2⟩ := info_parts infoB5
  have K : Hid (∀ (v' : Value) (w' : World), w'.ownsRow w.heap.size 5 1 v' l.length (Lib.byteCells l) → Below w.heap.size w w' → ∀ (W : World), W.ownsRow w.heap.size 5 1 v' l.length (Lib.byteCells l) → True) := fun _ _ _ _ _ _ => trivial
  clear K
  have fin : Hid (∀ (v' : Value) (w1 w2 : World) (v2 : Value) (o : Obj), w1.ownsRow w.heap.size 5 1 v' l.length (Lib.byteCells l) → Below w.heap.size w w1 → w2.ownsRow w.heap.size 5 1 v2 (l.length + 1) (Lib.byteCells l ++ [.int .u8 0]) → (w1.alloc o).grownBy w2 v'.ownBlock → w2.ownsRow w.heap.size 5 1 v2 (l.length + 1) (Lib.byteCells (l ++ [0])) ∧ Below w.heap.size w w2) := fun v' w1 w2 v2 o k1 k2 k3 k4 => ⟨by rw [bq_push]; exact k3, (below_on k2 (below_alloc _ _)).grown k4 (by have := k2.size; simp; omega) (fun k e => (k1.lt k e).1)⟩
  rcases h.2 with ⟨rfl, hl0⟩ | ⟨g, c, cur, rfl, hbg, hg, e1, e2, hcs, htake⟩
  · obtain rfl : l = [] := List.eq_nil_of_length_eq_zero hl0
    have O1 : Hid (w.ownsRow w.heap.size 5 1 (.slice none 0 0) 0 []) := World.ownsRow_nil _ _ _ _
    go_enter Tryz.func122, Tryz.ntmps122
    go_wp2_with (at_builtin; refine wpList_append_own_none rfl _ _ 51 rfl w.heap.size 5 i5 1 under51 hi5 _ 0 [] rfl (World.ownsRow_nil _ _ _ _) rfl ?_)
    go_loopw [1, 5] (fun v1 v5 W => v1 = .int .u64 0 ∧ v5 = .slice none 0 0 ∧ Hid (W = w)) (fun _ _ _ => 0)
    case atStart => exact ⟨rfl, rfl, rfl⟩
    case round =>
      obtain ⟨rfl, rfl, HW⟩ := hrel
      have hW := HW.out
      subst wr
      have t1 : ¬ (0 : Int) ≥ (128 : Int) := by omega
      go_wp2_with (at_builtin; refine wpList_append_own_at _ rfl _ _ 51 rfl w.heap.size 5 i5 (.int .u8 0) 1 1 under51 hi5 hx0 hx1 hx2 rfl (by decide) _ 0 [] rfl (O1.out.alloc _) ⟨w.heap.size, 0, none⟩ 1 1 [.int .u8 0] rfl rfl ?c1 ?c2 (by unfold maxLen; omega) (by omega) ?c5 ?_)
      try (case c1 => intro j u hj; match j, hj with | 0, hj => simp at hj; subst hj; simp [Addr.add])
      try (case c2 => first | (intro u hu; simp at hu; subst hu; rfl) | exact rfl)
      try (case c5 => first | omega | (simp; omega))
      intro v2 w2 o2 g2 _ _
      have HE := hide (fin.out _ w w2 v2 _ O1.out (Below.refl _ _) o2 g2)
      obtain ⟨g9, c9, rfl, -, -⟩ := own_form o2 (by omega)
      clear o2 g2
      go_wp2_with fail
      go_ret
      exact ⟨_, rfl, HE.out.1, HE.out.2⟩
  · have H : Hid (∀ j u, (Lib.byteCells l)[j]? = some u → w.cell? ((⟨g, 0, none⟩ : Addr).add j) = some u) := fun j u hj => by
      have hj2 : j < l.length := by
        have := (List.getElem?_eq_some_iff.1 hj).1
        rwa [bq_len] at this
      rw [add_at, Nat.zero_add, h.cellAt j (by omega)]
      exact hj
    clear h hcs htake hg
    go_enter Tryz.func122, Tryz.ntmps122
    go_wp2_with (at_builtin; refine wpList_append_own_at _ rfl _ _ 51 rfl w.heap.size 5 i5 (.int .u8 0) 1 1 under51 hi5 hx0 hx1 hx2 rfl (by decide) _ 0 [] rfl (World.ownsRow_nil _ _ _ _) ⟨g, 0, none⟩ l.length c (Lib.byteCells l) rfl (by rw [bq_len]; omega) H.out (bq_one l) (by unfold maxLen; omega) (by omega) (Nat.le_refl _) ?_)
    intro v1 w1 o1 g1 _ _
    try simp only [Nat.zero_add, List.nil_append] at o1
    have B1 : Hid (Below w.heap.size w w1) := (Below.refl _ _).grown g1 (Nat.le_refl _) (fun k e => by cases e)
    have O1 := hide o1
    obtain ⟨a5, c5, rfl⟩ := own_len o1
    clear o1 g1 H
    go_wp2_with fail
    go_loopw [1, 5] (fun v1 v5 W => v1 = .int .u64 0 ∧ v5 = .slice a5 l.length c5 ∧ Hid (W = w1)) (fun _ _ _ => 0)
    case atStart => exact ⟨rfl, rfl, rfl⟩
    case round =>
      obtain ⟨rfl, rfl, HW⟩ := hrel
      have hW := HW.out
      subst wr
      have t1 : ¬ (0 : Int) ≥ (128 : Int) := by omega
      have hs := B1.out.size
      go_wp2_with (at_builtin; refine wpList_append_own_at _ rfl _ _ 51 rfl w.heap.size 5 i5 (.int .u8 0) 1 1 under51 hi5 hx0 hx1 hx2 rfl (by decide) _ l.length (Lib.byteCells l) rfl (O1.out.alloc _) ⟨w1.heap.size, 0, none⟩ 1 1 [.int .u8 0] rfl rfl ?c1b ?c2b (by unfold maxLen; omega) (by omega) ?c5b ?_)
      try (case c1b => intro j u hj; match j, hj with | 0, hj => simp at hj; subst hj; simp [Addr.add])
      try (case c2b => first | (intro u hu; simp at hu; subst hu; rfl) | exact rfl)
      try (case c5b => first | omega | (simp; omega))
      intro v2 w2 o2 g2 _ _
      have HE := hide (fin.out _ w1 w2 v2 _ O1.out B1.out o2 g2)
      obtain ⟨g9, c9, rfl, -, -⟩ := own_form o2 (by omega)
      clear o2 g2
      go_wp2_with fail
      go_ret
      exact ⟨_, rfl, HE.out.1, HE.out.2⟩
set_option maxHeartbeats 8000000 in
theorem dputrow0 {B : Nat} {w : World} {v : Value} {l : List UInt8} (h : w.ownsRow B 5 1 v l.length (Lib.byteCells l)) (hl : l.length ≤ 100) : Calls Tryz.prog 168 #[v, .slice none 0 0] w fun e w' => ∃ v', e = .returned v' ∧ w'.ownsRow w.heap.size 5 1 v' (l.length + 1) (Lib.byteCells (l ++ [0])) ∧ Below w.heap.size w w' := by
  have J := hide (dput0 h hl)
  obtain ⟨a, c, rfl⟩ := own_len h
  clear h
  go_enter Tryz.func168, Tryz.ntmps168
  go_wp2_with fail
  refine J.out.mono ?_
  rintro e w1 ⟨v1, rfl, o1, b1⟩
  have O1 := hide o1
  have B1 := hide b1
  obtain ⟨a1, c1, rfl⟩ := own_len o1
  clear o1 b1 J
  go_wp2_with fail
  go_ret
  exact ⟨_, rfl, O1.out, B1.out⟩
set_option maxHeartbeats 8000000 in
theorem dhead0 {w : World} {g : Nat} (h : Dw0 w g) : Calls Tryz.prog 121 #[.pointer (some ⟨g, 0, none⟩)] w fun e w' => ∃ v', e = .returned v' ∧ w'.ownsRow w.heap.size 5 1 v' 2 (Lib.byteCells [0, 0]) ∧ Below w.heap.size w w' := by
  obtain ⟨gd, c1, -, c3, c4⟩ := h.cell
  have JS := hide (dstate0 c3 c4)
  clear h c3 c4
  go_enter Tryz.func121, Tryz.ntmps121
  go_wp2_with fail
  refine JS.out.mono ?_
  rintro e w1 ⟨rfl, rfl⟩
  obtain ⟨w, rfl⟩ : ∃ X, X = w1 := ⟨_, rfl⟩
  go_wp2_with fail
  refine (dlongs0 _).mono ?_
  rintro e w1 ⟨rfl, rfl⟩
  obtain ⟨w, rfl⟩ : ∃ X, X = w1 := ⟨_, rfl⟩
  have J1 : Hid (Calls Tryz.prog 168 #[.slice none 0 0, .slice none 0 0] w fun e w' => ∃ v', e = .returned v' ∧ w'.ownsRow w.heap.size 5 1 v' 1 (Lib.byteCells [0]) ∧ Below w.heap.size w w') := dputrow0 (B := w.heap.size) (l := []) (World.ownsRow_nil _ _ _ _) (by decide)
  go_wp2_with fail
  refine J1.out.mono ?_
  rintro e w1 ⟨v1, rfl, o1, b1⟩
  have B1 := hide b1
  have J2 : Hid (Calls Tryz.prog 168 #[v1, .slice none 0 0] w1 fun e w' => ∃ v', e = .returned v' ∧ w'.ownsRow w1.heap.size 5 1 v' 2 (Lib.byteCells [0, 0]) ∧ Below w1.heap.size w1 w') := dputrow0 (l := [0]) o1 (by decide)
  obtain ⟨a1, c1, rfl⟩ := own_len o1
  clear o1 b1 J1
  go_wp2_with fail
  refine (dlongs0 _).mono ?_
  rintro e w2 ⟨rfl, rfl⟩
  obtain ⟨w1, rfl⟩ : ∃ X, X = w2 := ⟨_, rfl⟩
  go_wp2_with fail
  refine J2.out.mono ?_
  rintro e w2 ⟨v2, rfl, o2, b2⟩
  have O2 := hide (own_lower o2 B1.out.size)
  have B2 := hide (below_on B1.out b2)
  obtain ⟨a2, c2, rfl⟩ := own_len o2
  clear o2 b2 J2
  go_wp2_with fail
  go_ret
  exact ⟨_, rfl, O2.out, B2.out⟩
set_option maxHeartbeats 8000000 in
theorem dsnap0 {w : World} {g : Nat} (h : Dw0 w g) : Calls Tryz.prog 57 #[.pointer (some ⟨g, 0, none⟩)] w fun e w' => ∃ v', e = .returned v' ∧ w'.ownsRow w.heap.size 5 1 v' 2 (Lib.byteCells [0, 0]) ∧ Below w.heap.size w w' := by
  have J := hide (dhead0 h)
  have HD := hide h
  clear h
  go_enter Tryz.func57, Tryz.ntmps57
  go_wp2_with fail
  refine J.out.mono ?_
  rintro e w1 ⟨v1, rfl, o1, b1⟩
  have O1 := hide o1
  have B1 := hide b1
  obtain ⟨gd, -, c2, -, -⟩ := (HD.out.later b1).cell
  obtain ⟨a1, c1, rfl⟩ := own_len o1
  clear o1 b1 J
  go_wp2_with fail
  go_loopw [3, 4] (fun v3 v4 W => v3 = .slice a1 2 c1 ∧ v4 = .int .i64 0 ∧ Hid (W = w1)) (fun _ _ _ => 0)
  case atStart => exact ⟨rfl, rfl, rfl⟩
  case round =>
    obtain ⟨rfl, rfl, HW⟩ := hrel
    have hW := HW.out
    subst wr
    have t1 : ¬ (0 : Int) < (0 : Int) := by omega
    go_wp2_with fail
    go_ret
    exact ⟨_, rfl, O1.out, B1.out⟩
set_option maxHeartbeats 4000000 in
theorem wkinds_any {w : World} {own : Nat → Nat} {gw N : Nat} {ks : List Kind} {gs fr : List Nat} {C : Co} (h : Wn w own gw N ks gs fr C) : Calls Tryz.prog 56 #[.pointer (some ⟨gw, 0, none⟩)] w fun e w' => ∃ v', e = .returned v' ∧ Ko w.heap.size w' v' ks ∧ Below w.heap.size w w' := by
  obtain ⟨vk, gp, gm, gt, q, T, h1, h2, h3, h4, h5, h6⟩ := h
  obtain ⟨c0, -⟩ := h1.cells
  have hk := h1.2.2.2.1.kr
  have J := hide (clone_kinds hk (by have := h4.2.1; omega) (fun k hk => by have := (h4.2.2.1 k hk).1; omega))
  obtain ⟨ao, c, rfl, -⟩ := hk
  clear h1 h2 h3 h4 h5 h6
  go_enter Tryz.func56, Tryz.ntmps56
  go_wp2_with fail
  refine J.out.mono ?_
  rintro e w1 ⟨v1, rfl, k1, b1⟩
  have K1 := hide k1
  have B1 := hide b1
  obtain ⟨L, k2, -⟩ := k1
  obtain ⟨a1, c1, rfl⟩ := own_len k2
  clear k2 b1 J
  go_wp2_with fail
  go_ret
  exact ⟨_, rfl, K1.out, B1.out⟩
end Go.Proofs.YtafmiolehlagkaaGreat

/-
  World: kinds that came out, written over by their owner.
-/
namespace Go.Proofs.YtafmiolehlagkaaGreat
open Go.RowKit
set_option maxRecDepth 100000
def ovl : ByteArray := ⟨#[111, 118, 101, 114]⟩
/-- Behind i of them. -/
def Kq (B : Nat) (W : World) (g c : Nat) (ks : List Kind) (L : List Kc) (i : Nat) : Prop :=
  ∃ M : List Kc, M.length = ks.length ∧ W.ownsRow B 119 2 (.slice (some ⟨g, 0, none⟩) ks.length c) ks.length (kz M) ∧ ∀ j (h1 : j < M.length) (h2 : j < ks.length) (h3 : j < L.length), i ≤ j → M[j] = L[j] ∧ W.ownsRow B 9 1 (kcV L[j]) ks[j].2.length (sz ks[j].2)
theorem Ka.kq {B : Nat} {W : World} {v : Value} {ks : List Kind} (h : Ka B W v ks) (h0 : 0 < ks.length) : ∃ g c L, v = .slice (some ⟨g, 0, none⟩) ks.length c ∧ ks.length ≤ c ∧ c ≤ 9223372036854775807 ∧ L.length = ks.length ∧ Apt L ks.length ∧ Kq B W g c ks L 0 ∧ (B ≤ g ∧ g < W.heap.size) ∧ ∀ j (h1 : j < L.length), ∀ q, (kcV L[j]).ownBlock = some q → B ≤ q ∧ q < W.heap.size := by
  obtain ⟨L, h1, h2, h3, h4⟩ := h
  obtain ⟨g, c, rfl, e1, e2⟩ := own_form h1 h0
  exact ⟨g, c, L, rfl, e1, e2, h2, h4, ⟨L, h2, h1, fun j j1 j2 j3 _ => ⟨rfl, (h3 j j1 j2).2⟩⟩, h1.lt g rfl, fun j j1 q e => (h3 j j1 (by omega)).2.lt q e⟩
theorem Kq.at {B : Nat} {W : World} {g c i : Nat} {ks : List Kind} {L : List Kc} (h : Kq B W g c ks L i) (hl : L.length = ks.length) (hi : i < ks.length) : W.cell? ⟨g, i * 2 + 1, none⟩ = some (kcV (L[i]'(by omega))) ∧ W.ownsRow B 9 1 (kcV (L[i]'(by omega))) ks[i].2.length (sz ks[i].2) := by
  obtain ⟨M, h1, h2, h3⟩ := h
  obtain ⟨e1, e2⟩ := h3 i (by omega) hi (by omega) (Nat.le_refl _)
  refine ⟨?_, e2⟩
  rw [h2.cellAt (i * 2 + 1) (by omega), (kz_at _ i (by omega)).2, e1]
theorem Kq.turn {B : Nat} {W W2 : World} {g c i : Nat} {ks : List Kind} {L : List Kc} (h : Kq B W g c ks L i) (hl : L.length = ks.length) (hA : Apt L ks.length) (hi : i < ks.length) (hm : Mv W W2 (fun q => (kcV (L[i]'(by omega))).ownBlock = some q)) (a2 : Option Addr) (n2 c2 : Nat) :
    (∃ u, W2.cell? ⟨g, i * 2, none⟩ = some u) ∧ (∃ u, W2.cell? ⟨g, i * 2 + 1, none⟩ = some u) ∧ (∀ j, W2.frozen? ⟨g, j, none⟩ = false) ∧ Kq B ((W2.setCell ⟨g, i * 2, none⟩ (.string ovl)).setCell ⟨g, i * 2 + 1, none⟩ (.slice a2 n2 c2)) g c ks L (i + 1) := by
  obtain ⟨M, h1, h2, h3⟩ := h
  have hLi := (h3 i (by omega) hi (by omega) (Nat.le_refl _)).2
  have h2' := hm.own h2 (fun k e e' => own_kinds h2 hLi (by decide) e e')
  refine ⟨⟨_, by rw [h2'.cellAt (i * 2) (by omega)]; exact (kz_at _ i (by omega)).1⟩, ⟨_, by rw [h2'.cellAt (i * 2 + 1) (by omega)]; exact (kz_at _ i (by omega)).2⟩, fun j => h2'.frozenAt _, ?_⟩
  have a1 := (h2'.stored (i * 2) (.string ovl)).1
  have a3 := (a1.stored (i * 2 + 1) (.slice a2 n2 c2)).1
  have hMi : i < M.length := by omega
  refine ⟨M.set i (ovl, a2, n2, c2), by simpa using h1, ?_, fun j j1 j2 j3 hj => ?_⟩
  · rw [kz_set0 _ i _ hMi, show (Value.slice a2 n2 c2) = .slice (a2, n2, c2).1 (a2, n2, c2).2.1 (a2, n2, c2).2.2 from rfl, kz_set _ i _ (by simpa using hMi)] at a3
    simp only [List.set_set, List.getElem_set_self] at a3
    exact a3
  · rw [List.getElem_set_ne (by omega)]
    obtain ⟨b1, b2⟩ := h3 j (by simpa using j1) j2 j3 (by omega)
    refine ⟨b1, ?_⟩
    have b3 := hm.own b2 (fun q e e' => by have := hA i j (by omega) j3 (by omega) j2 q q e' e; omega)
    have hkn : (kcV L[j]).ownBlock ≠ some g := fun e => own_kinds b3 h2' (by decide) e rfl
    exact own_set (own_set b3 hkn) hkn
end Go.Proofs.YtafmiolehlagkaaGreat

/-
  World: maps of nothing; lists of nothing that are the same.
-/
namespace Go.Proofs.YtafmiolehlagkaaGreat
open Go.RowKit
set_option maxRecDepth 100000
theorem cs_none {f : Nat → Option Nat} (h : Cs (fun _ => none) f) : f = fun _ => none := by
  funext s
  cases hf : f s with
  | none => rfl
  | some n =>
    obtain ⟨hn, E, -, hE, hm⟩ := (h s n).1 hf
    cases E with
    | nil => simp at hE; omega
    | cons e t =>
      have := (hm e).1 (by simp)
      simp [fC] at this
theorem Mi.none_len {w : World} {g n : Nat} (h : Mi w g n (fun _ => none)) : (Builtin.len_ #[80] 3 #[.map (some g)]).run Tryz.prog w = .ok (.int .i64 0) w := by
  obtain ⟨D, h1, d2, d3⟩ := h
  have hh : ∀ k, Maps.has D k = false := fun k => by
    cases hk : Maps.has D k with
    | false => rfl
    | true =>
      obtain ⟨s, hs, rfl⟩ := d3 k hk
      have := (d2 s hs).1
      rw [hk] at this
      cases this
  have h2 := World.ownsMap_made (H := Unit) w Tryz.prog 3 (plainElem Tryz.prog 3)
  have e : D = .map [] := Maps.ext (h1.canon keyed3) (h2.canon keyed3) (fun k => (hh k).trans rfl) (fun k z hk => by rw [hh k] at hk; cases hk)
  have := h1.len Tryz.underlying80 3
  rw [e] at this
  exact this
/-- A map from numbers to numbers, whatever it holds. -/
def Mo (w : World) (g n : Nat) : Prop := ∃ D : DataW Unit, w.ownsMap Tryz.prog 3 (plainElem Tryz.prog 3) g n D
theorem Mi.mo {w : World} {g n : Nat} {q : Nat → Option Nat} (h : Mi w g n q) : Mo w g n := by
  obtain ⟨D, h1, -⟩ := h
  exact ⟨D, h1⟩
theorem Mo.same {w w' : World} {g n : Nat} (h : Mo w g n) (hs : w'.heap[g]? = w.heap[g]?) : Mo w' g n := by
  obtain ⟨D, es, ck, h1, h2⟩ := h
  exact ⟨D, es, ck, hs.trans h1, h2⟩
theorem Mo.lt {w : World} {g n : Nat} (h : Mo w g n) : g < w.heap.size := by
  obtain ⟨D, h1⟩ := h
  exact h1.lt
theorem Mo.store {w : World} {g n : Nat} (h : Mo w g n) (hn : n ≤ 1000000) (k i : Int) (hk : -1000000 ≤ k ∧ k ≤ 1000000) (hi : -1000000 ≤ i ∧ i ≤ 1000000) : ∃ w', (Instr.mapUpdate 80 (.map (some g)) (.int .i64 k) (.int .i64 i)).run Tryz.prog w = .ok () w' ∧ Mo w' g (n + 1) ∧ Mv w w' (fun q => q = g) := by
  obtain ⟨D, h1⟩ := h
  have hw : (Lit.int .i64 i).wf = true := by simp [Lit.wf, IntKind.min, IntKind.max, IntKind.signed, IntKind.bits]; omega
  have hw2 : (Lit.int .i64 k).wf = true := by simp [Lit.wf, IntKind.min, IntKind.max, IntKind.signed, IntKind.bits]; omega
  have hkey : keyOf Tryz.prog 3 (.int .i64 k) = some (.int .i64 k) := by simp [keyOf, mapKey, Tryz.underlying3, hw2]
  obtain ⟨w', hr, h3, h4⟩ := h1.store keyed3 Tryz.underlying80 (by unfold maxLen; omega) hkey (plainElem_int Tryz.underlying3 hw)
  exact ⟨w', hr, ⟨_, h3⟩, mv_turned h4⟩
set_option maxHeartbeats 4000000 in
theorem shapes_none {w : World} {g n : Nat} (h : Mi w g n (fun _ => none)) : Calls Tryz.prog 58 #[.map (some g), .slice none 0 0] w fun e w' => e = .returned (.bool true) ∧ w' = w := by
  have hlen := h.none_len
  clear h
  go_enter Tryz.func58, Tryz.ntmps58
  go_wp2_with fail
  go_loopw [5] (fun v5 W => v5 = .int .i64 0 ∧ Hid (W = w)) (fun _ _ => 0)
  case atStart => exact ⟨rfl, rfl⟩
  case round =>
    obtain ⟨rfl, HW⟩ := hrel
    have hW := HW.out
    subst wr
    have t1 : ¬ (0 : Int) < (0 : Int) := by omega
    go_wp2_with fail
    go_ret
    exact ⟨rfl, rfl⟩
set_option maxHeartbeats 4000000 in
theorem rows_same0 (w : World) (a b : Option Addr) (c d : Nat) : Calls Tryz.prog 28 #[.slice a 0 c, .slice b 0 d] w fun e w' => e = .returned (.bool true) ∧ w' = w := by
  go_enter Tryz.func28, Tryz.ntmps28
  go_wp2_with fail
  go_loopw [5] (fun v5 W => v5 = .int .i64 0 ∧ Hid (W = w)) (fun _ _ => 0)
  case atStart => exact ⟨rfl, rfl⟩
  case round =>
    obtain ⟨rfl, HW⟩ := hrel
    have hW := HW.out
    subst wr
    have t1 : ¬ (0 : Int) < (0 : Int) := by omega
    go_wp2_with fail
    go_ret
    exact ⟨rfl, rfl⟩
theorem livers_none {E : List (Int × Int)} (h : Livers (fC (fun _ => none)) E) : E = [] := by
  obtain ⟨h1, h2, h3, h4⟩ := h
  cases E with
  | nil => rfl
  | cons e t =>
    have := (h3 e (h4 e (by simp))).2 (by simp)
    rw [fC_is] at this
    cases this
theorem row0 : Pak.Rw.rowB (zi []) = [0] := by kernel_rfl
end Go.Proofs.YtafmiolehlagkaaGreat

/-
  World: append, and what it leaves (as in the record's texts).
-/
namespace Go.Proofs.YtafmiolehlagkaaGreat
open Go.RowKit
set_option maxRecDepth 100000
section
variable {P : Program} {w : World}
theorem run_append_keep (base : Nat) (t ty e : TypeId) (i : TypeInfo) (z : Value) (size bytes : Nat) (ht : P.underlying t = some (.slice e)) (hi : P.info? e = some i) (hz : i.zero = some z)
    (hsize : i.size = size) (hby : i.bytes = bytes) (hzs : z.cells.size = size) (hsz : 0 < size)
    (v : Value) (n : Nat) (xs : List Value) (hown : w.ownsRow base e size v n xs)
    (a : Addr) (m c : Nat) (news : List Value) (hl : news.length = m * size) (hnews : ∀ j u, news[j]? = some u → w.cell? (a.add j) = some u) (h1 : ∀ u ∈ news, u.oneCell' = true)
    (h63 : n + m ≤ maxLen) (hbytes : (n + m) * bytes ≤ 140737488355328) (hbase : base ≤ w.heap.size) :
    ∃ v' w', (Builtin.append_ #[t, t] ty #[v, .slice (some a) m c]).run P w = .ok v' w' ∧ w'.ownsRow base e size v' (n + m) (xs ++ news) ∧ w.grownBy w' v.ownBlock ∧
      (v'.ownBlock = v.ownBlock ∨ v'.ownBlock = some w.heap.size) ∧ (∀ g j, v.ownBlock = some g → j < n * size → w'.cell? ⟨g, j, none⟩ = w.cell? ⟨g, j, none⟩) := by
  obtain ⟨v', w', hr, h2, h3, _, h5⟩ := run_append_own_at (P := P) w base t ty e i z size bytes ht hi hz hsize hby hzs hsz v n xs hown a m c news hl hnews h1 h63 hbytes hbase
  refine ⟨v', w', hr, h2, h3, h5, ?_⟩
  intro g' j hg' hj
  have hsmall : n + m ≤ 9223372036854775807 := by simp only [maxLen] at h63; omega
  subst hsize
  subst hby
  rcases hown.2 with ⟨rfl, _⟩ | ⟨g, cap, cur, rfl, hbg, hg, hnc, hcm, hcs, htake⟩
  · simp [Value.ownBlock] at hg'
  · have hgg : g = g' := by simpa [Value.ownBlock] using hg'
    subst hgg
    by_cases hroom : n + m ≤ cap
    · have hfit : n * i.size + news.length ≤ cur.size := by rw [hl, hcs, ← Nat.add_mul]; exact Nat.mul_le_mul_right _ hroom
      have hr2 := run_append_room (P := P) w t ty e i ht hi g n cap cur hg a m c news hl hnews h1 hroom hfit
      rw [hr] at hr2
      injection hr2 with hv hw
      subst hv
      rw [h2.cellAt j (by rw [Nat.add_mul]; omega), hown.cellAt j hj, List.getElem?_append_left (by rw [hown.1]; exact hj)]
    · have holds : ∀ j u, xs[j]? = some u → w.cell? ((⟨g, 0, none⟩ : Addr).add j) = some u := hown.cells (g := g) rfl
      have hr2 := run_append_grow (P := P) w t ty e i z ht hi hz ⟨g, 0, none⟩ n cap xs hown.1 holds a m c news hl hnews (by omega) (by omega) (growslice_fits (by omega) hbytes)
      rw [hr] at hr2
      injection hr2 with hv hw
      subst hw
      exact World.cell?_of_block ((below_alloc w.drew _).block g (Array.getElem?_eq_some_iff.1 hg).1)

theorem step_append_keep {ops : Array Oper} {o : Oper} {a : Act} {K : Act → World → Prop} {Q : Exit → Act → World → Prop} {E : Prop} (hgd : o.guard = none) (s x : Operand) (t : TypeId)
    (ho : o.op = .call { callee := .builtin .append, args := #[s, x], argTypes := #[t, t] })
    (base : Nat) (e : TypeId) (i : TypeInfo) (z : Value) (size bytes : Nat) (ht : P.underlying t = some (.slice e)) (hi : P.info? e = some i) (hz : i.zero = some z)
    (hsize : i.size = size) (hby : i.bytes = bytes) (hzs : z.cells.size = size) (hsz : 0 < size)
    (v : Value) (n : Nat) (xs : List Value) (hs : a.eval s = v) (hown : w.ownsRow base e size v n xs)
    (ad : Addr) (m c : Nat) (news : List Value) (hx : a.eval x = .slice (some ad) m c) (hl : news.length = m * size) (hnews : ∀ j u, news[j]? = some u → w.cell? (ad.add j) = some u) (h1 : ∀ u ∈ news, u.oneCell' = true)
    (h63 : n + m ≤ maxLen) (hbytes : (n + m) * bytes ≤ 140737488355328) (hbase : base ≤ w.heap.size)
    (h : ∀ v' w', w'.ownsRow base e size v' (n + m) (xs ++ news) → w.grownBy w' v.ownBlock → (v'.ownBlock = v.ownBlock ∨ v'.ownBlock = some w.heap.size) → (∀ g j, v.ownBlock = some g → j < n * size → w'.cell? ⟨g, j, none⟩ = w.cell? ⟨g, j, none⟩) → K (a.put o.dst v') w') :
    if Region.wanted o (yielded ops a.tmps) = true then Oper.wp P o a w K Q else E := by
  have hw : Region.wanted o (yielded ops a.tmps) = true := by simp [Region.wanted, hgd]
  rw [if_pos hw]
  obtain ⟨v', w', hr, h2, h3, h4, h5⟩ := run_append_keep (P := P) (w := w) base t o.type e i z size bytes ht hi hz hsize hby hzs hsz v n xs hown ad m c news hl hnews h1 h63 hbytes hbase
  unfold Oper.wp execOp
  simp only [ho, resolve, invoke, builtin, Sem.run_bind, Sem.run_pure, Result.andThen_ok, List.map_toArray, List.map_cons, List.map_nil, hs, hx, hr]
  exact h v' w' h2 h3 h4 h5
end
end Go.Proofs.YtafmiolehlagkaaGreat

/-
  World: the book of lists that came out, while all of them are empty: grows.
-/
namespace Go.Proofs.YtafmiolehlagkaaGreat
open Go.RowKit
set_option maxRecDepth 100000
theorem Bl.mv {B : Nat} {w w' : World} {gp gw gb k n : Nat} {v : Value} {xs zs : List Value} {S : Nat → Prop} (h : Bl B w gp gw gb v k n xs zs) (hm : Mv w w' S) (h0 : ¬ S gp) (h1 : ∀ q, B ≤ q → S q → ∃ (B' s m : Nat) (u : Value) (us : List Value), w.ownsRow B' 87 s u m us ∧ u.ownBlock = some q) : Bl B w' gp gw gb v k n xs zs := by
  obtain ⟨vr, vz, a1, a2, a3⟩ := h
  refine ⟨vr, vz, a1.mv hm h0, hm.own a2 (fun q e e' => ?_), hm.own a3 (fun q e e' => ?_)⟩
  · obtain ⟨B', s, m, u, us, y1, y2⟩ := h1 q (a2.lt q e).1 e'
    exact own_kinds a2 y1 (by decide) e y2
  · obtain ⟨B', s, m, u, us, y1, y2⟩ := h1 q (a3.lt q e).1 e'
    exact own_kinds a3 y1 (by decide) e y2
def zrow (m : Int) : List Value := [.int .i64 m, .int .i64 0, .slice none 0 0]
set_option maxHeartbeats 16000000 in
theorem grows_one {B B' : Nat} {w : World} {gp gw gb k n : Nat} {v : Value} {xs zs : List Value} (h : Bl B w gp gw gb v k n xs zs) (hkn : k + 1 = n) (hgp : gp < B) (hB : B ≤ w.heap.size) (hn : n ≤ 100) {al : Option Addr} {cl : Nat} (hx : xs[k]? = some (.slice al 0 cl)) {m : Int} (hz : zs[k]? = some (.int .i64 m)) (hl : w.ownsRow B' 87 3 (.slice al 0 cl) 0 []) (hB' : B' ≤ w.heap.size) (hal : (Value.slice al 0 cl).ownBlock ≠ some gp) :
    Calls Tryz.prog 61 #[.pointer (some ⟨gp, 6, none⟩)] w fun e w' => e = .returned (.tuple #[]) ∧ (∃ u, Bl B w' gp gw gb v (n + 1) (n + 1) (xs ++ [u]) (zs ++ [.int .i64 m])) ∧ Mv w w' (fun q => q = gp ∨ B ≤ q ∨ (Value.slice al 0 cl).ownBlock = some q) := by
  obtain ⟨i0, hi0, hz0, hz1, hz2⟩ := info_parts infoL
  obtain ⟨i3, hi3, hx0, hx1, hx2⟩ := info_parts infoI
  obtain ⟨iR, hiR, hr0, hr1, hr2⟩ := info_parts infoR
  have HH := hide h
  have HX := hide hx
  have HZ := hide hz
  have HL := hide hl
  have HAL := hide hal
  obtain ⟨vr, vz, hp, hr, hzz⟩ := h
  obtain ⟨-, -, -, c6, c7, c8, -, c12, c13, c14⟩ := hp.cell
  have HP := hide hp
  have f12 := hp.fz 12
  clear hp hr hzz hx hz hl hal
  go_enter Tryz.func61, Tryz.ntmps61
  go_wp2_with fail
  go_loopw [3] (fun v3 W => v3 = .int .i64 0 ∧ Hid (W = w)) (fun _ _ => 0)
  case atStart => exact ⟨rfl, rfl⟩
  case round =>
    obtain ⟨rfl, HW⟩ := hrel
    have hW := HW.out
    subst wr
    try clear HW
    have t1 : ¬ (0 : Int) < (0 : Int) := by omega
    obtain ⟨w1, hw1⟩ : ∃ X, X = w.setCell ⟨gp, 12, none⟩ (.int .i64 0) := ⟨_, rfl⟩
    have P1 : Hid (Pb w1 gp gw gb v vr vz k) := by rw [hw1]; exact HP.out.setI
    have M1 : Hid (Mv w w1 (fun q => q = gp)) := by rw [hw1]; exact Mv.set (S := fun q => q = gp) (Mv.refl _ _) (g := gp) rfl _ _
    obtain ⟨-, -, -, d6, d7, d8, -, d12, d13, d14⟩ := P1.out.cell
    have f13 := P1.out.fz 13
    go_upto_region 12 with fail
    rw [← hw1]
    clear c6 c7 c8 c12 c13 c14 f12 hw1
    go_wp2_with fail
    go_loopw [6] (fun v6 W => v6 = .int .i64 0 ∧ Hid (W = w1)) (fun _ _ => 0)
    case atStart => exact ⟨rfl, rfl⟩
    case round =>
      obtain ⟨rfl, HW⟩ := hrel
      have hW := HW.out
      subst wr
      try clear HW
      obtain ⟨w2, hw2⟩ : ∃ X, X = w1.setCell ⟨gp, 13, none⟩ (.int .i64 0) := ⟨_, rfl⟩
      have P2 : Hid (Pb w2 gp gw gb v vr vz k) := by rw [hw2]; exact P1.out.setJ
      have M2 : Hid (Mv w w2 (fun q => q = gp)) := by rw [hw2]; exact Mv.set (S := fun q => q = gp) M1.out (g := gp) rfl _ _
      obtain ⟨-, -, -, e6, e7, e8, -, e12, e13, e14⟩ := P2.out.cell
      have B2 : Hid (Bl B w2 gp gw gb v k n xs zs) := by
        obtain ⟨vr', vz', q1, q2, q3⟩ := HH.out
        exact ⟨vr', vz', by
          have h1 := q1.cell
          have h2 := HP.out.cell
          have e1 : vr' = vr := Option.some.inj (h1.2.2.2.2.2.1.symm.trans h2.2.2.2.2.2.1)
          have e2 : vz' = vz := Option.some.inj (h1.2.2.2.2.2.2.1.symm.trans h2.2.2.2.2.2.2.1)
          rw [e1, e2]
          exact P2.out, M2.out.own q2 (fun q e e' => own_other q2 hgp (e' ▸ e)), M2.out.own q3 (fun q e e' => own_other q3 hgp (e' ▸ e))⟩
      have L2 : Hid (w2.ownsRow B' 87 3 (.slice al 0 cl) 0 []) := M2.out.own HL.out (fun q e e' => HAL.out (e' ▸ e))
      have hvr : ∃ ar cr, vr = .slice ar n cr := by
        obtain ⟨vr', vz', q1, q2, q3⟩ := B2.out
        have e1 : vr' = vr := Option.some.inj (q1.cell.2.2.2.2.2.1.symm.trans e8)
        exact own_len (e1 ▸ q2)
      obtain ⟨ar, cr, rfl⟩ := hvr
      go_upto_region 24 with fail
      rw [← hw2]
      clear d6 d7 d8 d12 d13 d14 f13 hw2 P1 M1 HP HH
      go_wp2_with fail
      clear e6 e7 e8 e12 e13 e14 P2
      go_loopw [9] (fun v9 W => (v9 = .int .i64 (k : Int) ∧ Hid (Bl B W gp gw gb v k n xs zs ∧ W.ownsRow B' 87 3 (.slice al 0 cl) 0 [] ∧ Mv w W (fun q => q = gp ∨ B ≤ q ∨ (Value.slice al 0 cl).ownBlock = some q))) ∨ (v9 = .int .i64 (n : Int) ∧ Hid ((∃ u, Bl B W gp gw gb v k (n + 1) (xs ++ [u]) (zs ++ [.int .i64 m])) ∧ Mv w W (fun q => q = gp ∨ B ≤ q ∨ (Value.slice al 0 cl).ownBlock = some q)))) (fun v9 _ => n - (intOf v9).toNat)
      case atStart => exact .inl ⟨rfl, B2.out, L2.out, M2.out.mono (fun q _ e => .inl e)⟩
      case round =>
        clear B2 L2 M2
        rcases hrel with ⟨rfl, HS⟩ | ⟨rfl, HS⟩
        · have t2 : (k : Int) < (n : Int) := by omega
          obtain ⟨wo, rfl⟩ : ∃ X, X = wr := ⟨_, rfl⟩
          obtain ⟨⟨vr, vz, q1, q2, q3⟩, hl2, hm2⟩ := HS.out
          obtain ⟨gr, cr, rfl, hrr1, hrr2⟩ := own_form q2 (by omega)
          obtain ⟨gz, cz, rfl, hz1', hz2'⟩ := own_form q3 (by omega)
          have P := hide q1
          have R := hide q2
          have Z := hide q3
          have L := hide hl2
          have M := hide hm2
          obtain ⟨-, -, -, -, -, e8, e11, -, -, -⟩ := q1.cell
          have x1 : wo.cell? ⟨gr, k, none⟩ = some (.slice al 0 cl) := (q2.cellAt k (by omega)).trans HX.out
          have x2 : wo.cell? ⟨gz, k, none⟩ = some (.int .i64 m) := (q3.cellAt k (by omega)).trans HZ.out
          have HSB : Hid (B ≤ wo.heap.size ∧ B' ≤ wo.heap.size) := ⟨Nat.le_trans hB hm2.size, Nat.le_trans hB' hm2.size⟩
          clear q1 q2 q3 hl2 hm2 HS
          go_wp2_with fail
          clear e8 e11 x1 x2
          go_loopw [10, 11] (fun v10 v11 W => ∃ (i : Nat) (ys : List Value), i ≤ 70 ∧ v11 = .int .i64 (i : Int) ∧ Hid (W.ownsRow B' 87 3 v10 i ys ∧ (∀ q, v10.ownBlock = some q → (Value.slice al 0 cl).ownBlock = some q ∨ wo.heap.size ≤ q)) ∧ Hid (Mv wo W (fun q => (Value.slice al 0 cl).ownBlock = some q))) (fun _ v11 _ => 70 - (intOf v11).toNat)
          case atStart => exact ⟨0, [], by omega, rfl, ⟨L.out, fun q e => .inl e⟩, Mv.refl _ _⟩
          case round =>
            obtain ⟨i, ys, hi, rfl, HY, HM2⟩ := hrel
            have PP := hide (P.out.mv HM2.out HAL.out)
            have RR := hide (HM2.out.own R.out (fun q e e' => own_kinds R.out L.out (by decide) e e'))
            have ZZ := hide (HM2.out.own Z.out (fun q e e' => own_kinds Z.out L.out (by decide) e e'))
            obtain ⟨-, -, -, -, -, e8, e11, -, -, -⟩ := PP.out.cell
            have x2 : wr.cell? ⟨gz, k, none⟩ = some (.int .i64 m) := (ZZ.out.cellAt k (by omega)).trans HZ.out
            have HSB2 : Hid (B ≤ wr.heap.size ∧ B' ≤ wr.heap.size) := ⟨Nat.le_trans HSB.out.1 HM2.out.size, Nat.le_trans HSB.out.2 HM2.out.size⟩
            obtain ⟨a10, c10, rfl⟩ := own_len HY.out.1
            by_cases hi70 : i < 70
            · have t3 : (i : Int) < (70 : Int) := by omega
              go_wp2_with (at_builtin; refine wpList_append_own_at _ rfl _ _ 78 rfl B' 87 iR (.agg #[.int .i64 0, .int .i64 0, .slice none 0 0]) 3 40 under78 hiR hr0 hr1 hr2 rfl (by decide) _ i ys rfl (HY.out.1.alloc _) ⟨wr.heap.size, 0, none⟩ 1 1 (zrow m) rfl rfl ?c1 ?c2 (by unfold maxLen; omega) (by omega) ?c5 ?_)
              case c1 => intro j u hj; unfold zrow at hj; match j, hj with | 0, hj => simp at hj; subst hj; simp [Addr.add] | 1, hj => simp at hj; subst hj; simp [Addr.add] | 2, hj => simp at hj; subst hj; simp [Addr.add]
              case c2 => intro u hu; simp [zrow] at hu; rcases hu with rfl | rfl | rfl <;> rfl
              case c5 => have := HSB2.out.2; first | omega | (simp; omega)
              intro v9 w9 o9 g9 _ b9
              have HM3 : Hid (Mv wo w9 (fun q => (Value.slice al 0 cl).ownBlock = some q)) := (HM2.out.alloc _).grown g9 (fun q hq e => (HY.out.2 q e).resolve_right (by omega))
              have HY3 : Hid (w9.ownsRow B' 87 3 v9 (i + 1) (ys ++ zrow m) ∧ (∀ q, v9.ownBlock = some q → (Value.slice al 0 cl).ownBlock = some q ∨ wo.heap.size ≤ q)) := ⟨o9, fun q e => by
                rcases b9 with b9 | b9
                · exact HY.out.2 q (b9 ▸ e)
                · rw [b9] at e
                  simp only [Option.some.injEq] at e
                  have := HM2.out.size
                  try simp at e
                  omega⟩
              clear o9 g9 b9
              obtain ⟨g10, c11, rfl, -, -⟩ := own_form HY3.out.1 (by omega)
              go_wp2_with fail
              go_roundw
              case rel => exact ⟨i + 1, _, by omega, by go_num, HY3, HM3⟩
              case measure => simp [intOf]; omega
            · have t3 : ¬ (i : Int) < (70 : Int) := by omega
              obtain rfl : i = 70 := by omega
              obtain ⟨g10, c11, e10, -, -⟩ := own_form HY.out.1 (by omega)
              simp only [Value.slice.injEq, true_and] at e10
              obtain ⟨rfl, rfl⟩ := e10
              go_wp2_with (at_builtin; refine wpList_append_own_at _ rfl _ _ 44 rfl B 78 i0 (.slice none 0 0) 1 24 under44 hi0 hz0 hz1 hz2 rfl (by decide) _ n xs rfl (RR.out.alloc _) ⟨wr.heap.size, 0, none⟩ 1 1 [.slice (some ⟨g10, 0, none⟩) 70 c10] rfl rfl ?c1 ?c2 (by unfold maxLen; omega) (by omega) ?c5 ?_)
              case c2 => first | (intro u hu; simp at hu; subst hu; rfl) | exact rfl
              case c5 => have := HSB2.out.1; first | omega | (simp; omega)
              intro v2 w2 o2 g2 _ _
              have HMW : Hid (Mv w wr (fun q => q = gp ∨ B ≤ q ∨ (Value.slice al 0 cl).ownBlock = some q)) := M.out.trans HM2.out (fun q _ e => .inr (.inr e))
              have M2 : Hid (Mv w w2 (fun q => q = gp ∨ B ≤ q ∨ (Value.slice al 0 cl).ownBlock = some q)) := (HMW.out.alloc _).grown g2 (fun q _ e => .inr (.inl (RR.out.lt q e).1))
              have P2 := hide ((PP.out.later (below_alloc wr _)).kept g2 (own_other RR.out hgp))
              have Z2 : Hid (w2.ownsRow B 3 1 (.slice (some ⟨gz, 0, none⟩) n cz) n zs) := own_kept (ZZ.out.alloc _) g2 (fun q e e' => own_kinds ZZ.out RR.out (by decide) e e')
              have k8 := P2.out.cell.2.2.2.2.2.1
              have f8 := P2.out.fz 8
              have O2 := hide o2
              obtain ⟨g9, c9, rfl, y1, y2⟩ := own_form o2 (by omega)
              obtain ⟨w3, hw3⟩ : ∃ X, X = w2.setCell ⟨gp, 8, none⟩ (.slice (some ⟨g9, 0, none⟩) (n + 1) c9) := ⟨_, rfl⟩
              have M3 : Hid (Mv w w3 (fun q => q = gp ∨ B ≤ q ∨ (Value.slice al 0 cl).ownBlock = some q)) := by rw [hw3]; exact M2.out.set (g := gp) (.inl rfl) _ _
              have P3 : Hid (Pb w3 gp gw gb v (.slice (some ⟨g9, 0, none⟩) (n + 1) c9) (.slice (some ⟨gz, 0, none⟩) n cz) k) := by rw [hw3]; exact P2.out.setR _
              have R3 : Hid (w3.ownsRow B 78 1 (.slice (some ⟨g9, 0, none⟩) (n + 1) c9) (n + 1) (xs ++ [.slice (some ⟨g10, 0, none⟩) 70 c10])) := by rw [hw3]; exact own_set O2.out (own_other O2.out hgp)
              have Z3 : Hid (w3.ownsRow B 3 1 (.slice (some ⟨gz, 0, none⟩) n cz) n zs) := by rw [hw3]; exact own_set Z2.out (own_other Z2.out hgp)
              clear o2 g2 O2 Z2 e8 e11 x2
              go_upto_region 34 with fail
              rw [← hw3]
              have e11 : w3.drew.cell? ⟨gp, 11, none⟩ = some (.slice (some ⟨gz, 0, none⟩) n cz) := P3.out.cell.2.2.2.2.2.2.1
              have x2 : w3.drew.cell? ⟨gz, k, none⟩ = some (.int .i64 m) := (Z3.out.cellAt k (by omega)).trans HZ.out
              have HS : Hid (B ≤ w3.heap.size) := Nat.le_trans hB M3.out.size
              clear hw3 P2 M2 k8 f8 P R Z PP RR ZZ HY L M HMW HM2
              refine wp_region_noPanic ?_
              refine wp_region_late (J := fun i => i != 16) (S := fun W => W.cell? ⟨gp, 11, none⟩ = some (.slice (some ⟨gz, 0, none⟩) n cz) ∧ W.cell? ⟨gz, k, none⟩ = some (.int .i64 m)) (by kernel_rfl) ⟨e11, x2⟩ (fun hHeld => ?_)
              refine' wpAnyJ_takeW (i := 0) (oi := { dst := some 212, op := Op.move (Operand.tmp 0), type := 103, pos := "book.go:90", after := #[], guard := none }) (v := _) rfl (by kernel_rfl) (by kernel_rfl) (by kernel_rfl) (fun _ _ _ h => h) (Or.inl ⟨by rfl, ?hyA1⟩) ?reA1
              case hyA1 => (intro W hSw; (try dsimp only at hSw); go_simp; try with_reducible rfl)
              try simp only [Act.put, List.setIfInBounds_toArray, List.set_cons_zero, List.set_cons_succ]
              refine' wpAnyJ_takeW (i := 1) (oi := { dst := some 213, op := Op.move (Operand.tmp 0), type := 103, pos := "book.go:90", after := #[], guard := none }) (v := _) rfl (by kernel_rfl) (by kernel_rfl) (by kernel_rfl) (fun _ _ _ h => h) (Or.inl ⟨by rfl, ?hyA2⟩) ?reA2
              case hyA2 => (intro W hSw; (try dsimp only at hSw); go_simp; try with_reducible rfl)
              try simp only [Act.put, List.setIfInBounds_toArray, List.set_cons_zero, List.set_cons_succ]
              refine' wpAnyJ_takeW (i := 2) (oi := { dst := some 214, op := Op.nilCheck (Operand.tmp 213), type := 0, pos := "book.go:90", after := #[{ on := 1, ground := Ground.data }], guard := none }) (v := _) rfl (by kernel_rfl) (by kernel_rfl) (by kernel_rfl) (fun _ _ _ h => h) (Or.inl ⟨by rfl, ?hyA3⟩) ?reA3
              case hyA3 => (intro W hSw; (try dsimp only at hSw); go_simp; try with_reducible rfl)
              try simp only [Act.put, List.setIfInBounds_toArray, List.set_cons_zero, List.set_cons_succ]
              refine' wpAnyJ_takeW (i := 3) (oi := { dst := some 215, op := Op.fieldAddr 47 (Operand.tmp 214) 5, type := 0, pos := "book.go:90", after := #[{ on := 2, ground := Ground.data }], guard := none }) (v := _) rfl (by kernel_rfl) (by kernel_rfl) (by kernel_rfl) (fun _ _ _ h => h) (Or.inl ⟨by rfl, ?hyA4⟩) ?reA4
              case hyA4 => (intro W hSw; (try dsimp only at hSw); go_simp; try with_reducible rfl)
              try simp only [Act.put, List.setIfInBounds_toArray, List.set_cons_zero, List.set_cons_succ]
              refine' wpAnyJ_take (i := 4) (oi := { dst := some 216, op := Op.load 45 (Operand.tmp 215), type := 45, pos := "book.go:90", after := #[{ on := 3, ground := Ground.data }], guard := none }) (v := _) rfl (by kernel_rfl) (by kernel_rfl) (by kernel_rfl) (by kernel_rfl) (fun _ _ _ h => h) (Or.inl ⟨by rfl, ?hyA5⟩) (by assumption) ?reA5
              case hyA5 => (intro W hSw; (try dsimp only at hSw); go_simp; try with_reducible rfl)
              try simp only [Act.put, List.setIfInBounds_toArray, List.set_cons_zero, List.set_cons_succ]
              refine' wpAnyJ_takeW (i := 5) (oi := { dst := some 217, op := Op.move (Operand.tmp 0), type := 103, pos := "book.go:90", after := #[], guard := none }) (v := _) rfl (by kernel_rfl) (by kernel_rfl) (by kernel_rfl) (fun _ _ _ h => h) (Or.inl ⟨by rfl, ?hyA6⟩) ?reA6
              case hyA6 => (intro W hSw; (try dsimp only at hSw); go_simp; try with_reducible rfl)
              try simp only [Act.put, List.setIfInBounds_toArray, List.set_cons_zero, List.set_cons_succ]
              refine' wpAnyJ_takeW (i := 6) (oi := { dst := some 218, op := Op.nilCheck (Operand.tmp 217), type := 0, pos := "book.go:90", after := #[{ on := 5, ground := Ground.data }], guard := none }) (v := _) rfl (by kernel_rfl) (by kernel_rfl) (by kernel_rfl) (fun _ _ _ h => h) (Or.inl ⟨by rfl, ?hyA7⟩) ?reA7
              case hyA7 => (intro W hSw; (try dsimp only at hSw); go_simp; try with_reducible rfl)
              try simp only [Act.put, List.setIfInBounds_toArray, List.set_cons_zero, List.set_cons_succ]
              refine' wpAnyJ_takeW (i := 7) (oi := { dst := some 219, op := Op.fieldAddr 47 (Operand.tmp 218) 5, type := 0, pos := "book.go:90", after := #[{ on := 6, ground := Ground.data }], guard := none }) (v := _) rfl (by kernel_rfl) (by kernel_rfl) (by kernel_rfl) (fun _ _ _ h => h) (Or.inl ⟨by rfl, ?hyA8⟩) ?reA8
              case hyA8 => (intro W hSw; (try dsimp only at hSw); go_simp; try with_reducible rfl)
              try simp only [Act.put, List.setIfInBounds_toArray, List.set_cons_zero, List.set_cons_succ]
              refine' wpAnyJ_take (i := 8) (oi := { dst := some 220, op := Op.load 45 (Operand.tmp 219), type := 45, pos := "book.go:90", after := #[{ on := 7, ground := Ground.data }], guard := none }) (v := _) rfl (by kernel_rfl) (by kernel_rfl) (by kernel_rfl) (by kernel_rfl) (fun _ _ _ h => h) (Or.inl ⟨by rfl, ?hyA9⟩) (by assumption) ?reA9
              case hyA9 => (intro W hSw; (try dsimp only at hSw); go_simp; try with_reducible rfl)
              try simp only [Act.put, List.setIfInBounds_toArray, List.set_cons_zero, List.set_cons_succ]
              refine' wpAnyJ_takeW (i := 9) (oi := { dst := some 221, op := Op.move (Operand.tmp 9), type := 3, pos := "book.go:90", after := #[], guard := none }) (v := _) rfl (by kernel_rfl) (by kernel_rfl) (by kernel_rfl) (fun _ _ _ h => h) (Or.inl ⟨by rfl, ?hyA10⟩) ?reA10
              case hyA10 => (intro W hSw; (try dsimp only at hSw); go_simp; try with_reducible rfl)
              try simp only [Act.put, List.setIfInBounds_toArray, List.set_cons_zero, List.set_cons_succ]
              refine' wpAnyJ_takeW (i := 10) (oi := { dst := some 222, op := Op.indexAddr 45 (Operand.tmp 220) (Operand.tmp 221), type := 0, pos := "book.go:90", after := #[{ on := 8, ground := Ground.data }, { on := 9, ground := Ground.data }], guard := none }) (v := _) rfl (by kernel_rfl) (by kernel_rfl) (by kernel_rfl) (fun _ _ _ h => h) (Or.inl ⟨by rfl, ?hyA11⟩) ?reA11
              case hyA11 => (intro W hSw; (try dsimp only at hSw); go_simp; try with_reducible rfl)
              try simp only [Act.put, List.setIfInBounds_toArray, List.set_cons_zero, List.set_cons_succ]
              refine' wpAnyJ_take (i := 11) (oi := { dst := some 223, op := Op.load 3 (Operand.tmp 222), type := 3, pos := "book.go:90", after := #[{ on := 10, ground := Ground.data }], guard := none }) (v := _) rfl (by kernel_rfl) (by kernel_rfl) (by kernel_rfl) (by kernel_rfl) (fun _ _ _ h => h) (Or.inl ⟨by rfl, ?hyA12⟩) (by assumption) ?reA12
              case hyA12 => (intro W hSw; (try dsimp only at hSw); go_simp; try with_reducible rfl)
              try simp only [Act.put, List.setIfInBounds_toArray, List.set_cons_zero, List.set_cons_succ]
              refine wpAnyJ_ready (rs := [12]) (by kernel_rfl) (by simp) ?_
              refine AllReadyJ.cons (o := { dst := some 224, op := Op.buildSlice 45 1 #[(0, Operand.tmp 223)], type := 45, pos := "book.go:90", after := #[{ on := 11, ground := Ground.data }], guard := none }) rfl (fun K hK => ?_) AllReadyJ.nil
              go_simp
              refine hK.out _ _ (fun _ _ => ⟨((below_on (below_drew w3) (below_alloc _ _)).cell (p := ⟨gp, 11, none⟩) (World.block_lt_of_cell? _ _ e11)).trans e11, ((below_on (below_drew w3) (below_alloc _ _)).cell (p := ⟨gz, k, none⟩) (World.block_lt_of_cell? _ _ x2)).trans x2⟩) ?_
              clear hK K
              try simp only [Act.put, List.setIfInBounds_toArray, List.set_cons_zero, List.set_cons_succ]
              refine wpAnyJ_ready (rs := [13]) (by kernel_rfl) (by simp) ?_
              refine AllReadyJ.cons (o := { dst := some 225, op := Op.call { callee := Callee.builtin Builtin.append, args := #[Operand.tmp 216, Operand.tmp 224], argTypes := #[45, 45] }, type := 45, pos := "book.go:90", after := #[{ on := 4, ground := Ground.data }, { on := 12, ground := Ground.data }], guard := none }) rfl (fun K hK => ?_) AllReadyJ.nil
              have HO9 : Hid ((w3.drew.alloc (.cells #[.int .i64 m] 3)).ownsRow B 3 1 (.slice (some ⟨gz, 0, none⟩) n cz) n zs) := own_later Z3.out (below_on (below_drew _) (below_alloc _ _))
              refine step_append_keep rfl (.tmp 216) (.tmp 224) 45 rfl B 3 i3 (.int .i64 0) 1 8 under45 hi3 hx0 hx1 hx2 rfl (by decide) (.slice (some ⟨gz, 0, none⟩) n cz) n zs (by simp [Act.eval]) HO9.out ⟨w3.heap.size, 0, none⟩ 1 1 [.int .i64 m] (by simp [Act.eval]) rfl (by intro j u hj; match j, hj with | 0, hj => simp at hj; subst hj; simp [Addr.add]) (by intro u hu; simp at hu; subst hu; rfl) (by unfold maxLen; omega) (by omega) (by have := HS.out; simp; omega) ?_
              intro v4 w4 o4 g4 a4 kp4
              obtain ⟨ge, ce, rfl, -, -⟩ := own_form o4 (by omega)
              have xk : w4.cell? ⟨gz, k, none⟩ = some (.int .i64 m) := (kp4 gz k rfl (by omega)).trans (((below_on (below_drew w3) (below_alloc w3.drew _)).cell (p := ⟨gz, k, none⟩) (World.block_lt_of_cell? _ _ x2)).trans x2)
              have M4 : Hid (Mv w w4 (fun q => q = gp ∨ B ≤ q ∨ (Value.slice al 0 cl).ownBlock = some q)) := ((M3.out.later (below_drew _)).alloc _).grown g4 (fun q _ e => .inr (.inl (Z3.out.lt q e).1))
              have P4 := hide ((P3.out.later (below_on (below_drew _) (below_alloc w3.drew _))).kept g4 (own_other Z3.out hgp))
              have R4 := hide (own_kept (own_later R3.out (below_on (below_drew _) (below_alloc w3.drew _))) g4 (fun q e e' => own_kinds R3.out Z3.out (by decide) e e'))
              have k11 := P4.out.cell.2.2.2.2.2.2.1
              have f11 := P4.out.fz 11
              have O4 := hide o4
              have xz : w4.cell? ⟨gp, 11, none⟩ = some (.slice (some ⟨gz, 0, none⟩) n cz) := k11
              clear o4 g4 a4 kp4 HO9
              refine hK.out _ _ (fun _ _ => ⟨xz, xk⟩) ?_
              clear hK K
              try simp only [Act.put, List.setIfInBounds_toArray, List.set_cons_zero, List.set_cons_succ]
              refine' wpAnyJ_takeW (i := 14) (oi := { dst := some 226, op := Op.nilCheck (Operand.tmp 212), type := 0, pos := "book.go:90", after := #[{ on := 0, ground := Ground.data }, { on := 0, ground := Ground.phase }, { on := 1, ground := Ground.phase }, { on := 2, ground := Ground.phase }, { on := 3, ground := Ground.phase }, { on := 4, ground := Ground.phase }, { on := 5, ground := Ground.phase }, { on := 6, ground := Ground.phase }, { on := 7, ground := Ground.phase }, { on := 8, ground := Ground.phase }, { on := 9, ground := Ground.phase }, { on := 10, ground := Ground.phase }, { on := 11, ground := Ground.phase }, { on := 12, ground := Ground.phase }, { on := 13, ground := Ground.phase }], guard := none }) (v := _) rfl (by kernel_rfl) (by kernel_rfl) (by kernel_rfl) (fun _ _ _ h => h) (Or.inl ⟨by rfl, ?hyA13⟩) ?reA13
              case hyA13 => (intro W hSw; (try dsimp only at hSw); go_simp; try with_reducible rfl)
              try simp only [Act.put, List.setIfInBounds_toArray, List.set_cons_zero, List.set_cons_succ]
              refine' wpAnyJ_takeW (i := 15) (oi := { dst := some 227, op := Op.fieldAddr 47 (Operand.tmp 226) 5, type := 0, pos := "book.go:90", after := #[{ on := 14, ground := Ground.data }, { on := 0, ground := Ground.phase }, { on := 1, ground := Ground.phase }, { on := 2, ground := Ground.phase }, { on := 3, ground := Ground.phase }, { on := 4, ground := Ground.phase }, { on := 5, ground := Ground.phase }, { on := 6, ground := Ground.phase }, { on := 7, ground := Ground.phase }, { on := 8, ground := Ground.phase }, { on := 9, ground := Ground.phase }, { on := 10, ground := Ground.phase }, { on := 11, ground := Ground.phase }, { on := 12, ground := Ground.phase }, { on := 13, ground := Ground.phase }], guard := none }) (v := _) rfl (by kernel_rfl) (by kernel_rfl) (by kernel_rfl) (fun _ _ _ h => h) (Or.inl ⟨by rfl, ?hyA14⟩) ?reA14
              case hyA14 => (intro W hSw; (try dsimp only at hSw); go_simp; try with_reducible rfl)
              try simp only [Act.put, List.setIfInBounds_toArray, List.set_cons_zero, List.set_cons_succ]
              refine wpAnyJ_ready (rs := [16]) (by kernel_rfl) (by simp) ?_
              refine AllReadyJ.cons (o := { dst := none, op := Op.store 45 (Operand.tmp 227) (Operand.tmp 225), type := 0, pos := "book.go:90", after := #[{ on := 15, ground := Ground.data }, { on := 13, ground := Ground.data }, { on := 13, ground := Ground.chain }, { on := 0, ground := Ground.phase }, { on := 1, ground := Ground.phase }, { on := 2, ground := Ground.phase }, { on := 3, ground := Ground.phase }, { on := 4, ground := Ground.phase }, { on := 5, ground := Ground.phase }, { on := 6, ground := Ground.phase }, { on := 7, ground := Ground.phase }, { on := 8, ground := Ground.phase }, { on := 9, ground := Ground.phase }, { on := 10, ground := Ground.phase }, { on := 11, ground := Ground.phase }, { on := 12, ground := Ground.phase }, { on := 13, ground := Ground.phase }], guard := none }) rfl (fun K hK => ?_) AllReadyJ.nil
              go_simp
              refine hK.out _ _ (fun h _ => absurd h (by decide)) ?_
              clear hK K
              try simp only [Act.put, List.setIfInBounds_toArray, List.set_cons_zero, List.set_cons_succ]
              refine wpAnyJ_done (by kernel_rfl) ?_ _
              refine NoPanic.normal ?_
              have BL : Hid (Bl B (w4.setCell ⟨gp, 11, none⟩ (.slice (some ⟨ge, 0, none⟩) (n + 1) ce)) gp gw gb v k (n + 1) (xs ++ [.slice (some ⟨g10, 0, none⟩) 70 c10]) (zs ++ [.int .i64 m])) := ⟨_, _, P4.out.setZ _, own_set R4.out (own_other R4.out hgp), own_set O4.out (own_other O4.out hgp)⟩
              have ML : Hid (Mv w (w4.setCell ⟨gp, 11, none⟩ (.slice (some ⟨ge, 0, none⟩) (n + 1) ce)) (fun q => q = gp ∨ B ≤ q ∨ (Value.slice al 0 cl).ownBlock = some q)) := M4.out.set (g := gp) (.inl rfl) _ _
              clear M4 P4 R4 O4 k11 f11 xz xk e11 x2
              go_wp2_with fail
              go_roundw
              case rel => exact .inr ⟨by rw [← hkn]; go_num, ⟨_, BL.out⟩, ML.out⟩
              case measure => simp [intOf]; omega
        · have t2 : ¬ (n : Int) < (n : Int) := by omega
          obtain ⟨⟨u, vr, vz, q1, q2, q3⟩, hm2⟩ := HS.out
          obtain ⟨gr, cr, rfl, -, -⟩ := own_form q2 (by omega)
          obtain ⟨-, -, -, -, -, e8, -, -, -, e14⟩ := q1.cell
          have f14 := q1.fz 14
          have HE : Hid ((∃ u, Bl B (wr.setCell ⟨gp, 14, none⟩ (.int .i64 ((n + 1 : Nat) : Int))) gp gw gb v (n + 1) (n + 1) (xs ++ [u]) (zs ++ [.int .i64 m])) ∧ Mv w (wr.setCell ⟨gp, 14, none⟩ (.int .i64 ((n + 1 : Nat) : Int))) (fun q => q = gp ∨ B ≤ q ∨ (Value.slice al 0 cl).ownBlock = some q)) := ⟨⟨u, _, _, q1.setK (n + 1), own_set q2 (own_other q2 hgp), own_set q3 (own_other q3 hgp)⟩, hm2.set (g := gp) (.inl rfl) _ _⟩
          clear q1 q2 q3 hm2 HS
          go_wp2_with fail
          go_end0
          exact ⟨rfl, HE.out.1, HE.out.2⟩
end Go.Proofs.YtafmiolehlagkaaGreat

/-
  World: a world of nobody, asked.
-/
namespace Go.Proofs.YtafmiolehlagkaaGreat
open Go.RowKit
set_option maxRecDepth 100000
/-- A pair of worlds of nobody, while it is asked. -/
def Q0 (W : World) (gp gw gb : Nat) (v : Value) (ks : List Kind) : Prop := Pb W gp gw gb v (.slice none 0 0) (.slice none 0 0) 0 ∧ (∃ own N, Wn W own gw N ks [] [] (fun _ => none)) ∧ Dw0 W gb
section
variable {W W' : World} {gp gw gb : Nat} {v : Value} {ks : List Kind}
theorem Q0.later (h : Q0 W gp gw gb v ks) (hb : Below W.heap.size W W') : Q0 W' gp gw gb v ks := by
  obtain ⟨h1, ⟨own, N, h2⟩, h3⟩ := h
  exact ⟨h1.later hb, ⟨_, N, h2.later hb⟩, h3.later hb⟩
theorem Q0.cell (h : Q0 W gp gw gb v ks) : W.cell? ⟨gp, 0, none⟩ = some (.pointer (some ⟨gw, 0, none⟩)) ∧ W.cell? ⟨gp, 1, none⟩ = some (.pointer (some ⟨gb, 0, none⟩)) ∧ W.cell? ⟨gp, 2, none⟩ = some v := by
  obtain ⟨c0, c1, c2, -⟩ := h.1.cell
  exact ⟨c0, c1, c2⟩
theorem ask_rows (h : Q0 W gp gw gb v ks) : Calls Tryz.prog 29 #[.pointer (some ⟨gw, 0, none⟩)] W fun e w' => ∃ a c, e = .returned (.slice a 0 c) ∧ w'.ownsRow W.heap.size 87 3 (.slice a 0 c) 0 [] ∧ Below W.heap.size W w' := by
  obtain ⟨-, ⟨own, N, h2⟩, -⟩ := h
  refine h2.rows.mono ?_
  rintro e w' ⟨v', rfl, ⟨R, r1, r2, -⟩, hb⟩
  have hR : R = [] := List.map_eq_nil_iff.1 (livers_none r2)
  subst hR
  obtain ⟨a, c, rfl⟩ := own_len r1
  exact ⟨a, c, rfl, r1, hb⟩
theorem ask_shapes (h : Q0 W gp gw gb v ks) : Calls Tryz.prog 30 #[.pointer (some ⟨gw, 0, none⟩)] W fun e w' => e = .returned (.map (some W.heap.size)) ∧ (∃ n, n ≤ 8192 ∧ Mi w' W.heap.size n (fun _ => none)) ∧ Below W.heap.size W w' := by
  obtain ⟨-, ⟨own, N, h2⟩, -⟩ := h
  refine h2.shapes.mono ?_
  rintro e w' ⟨f, n, rfl, hn, hm, hc, hb⟩
  rw [cs_none hc] at hm
  exact ⟨rfl, ⟨n, hn, hm⟩, hb⟩
theorem ask_snap (h : Q0 W gp gw gb v ks) : Calls Tryz.prog 13 #[.pointer (some ⟨gw, 0, none⟩)] W fun e w' => ∃ v', e = .returned v' ∧ w'.ownsRow W.heap.size 5 1 v' 2 (Lib.byteCells [0, 0]) ∧ Below W.heap.size W w' := by
  obtain ⟨-, ⟨own, N, h2⟩, -⟩ := h
  refine h2.snapshot.mono ?_
  rintro e w' ⟨v', rfl, ⟨E, hE, l, hl, ho⟩, hb⟩
  rw [livers_none hE, row0] at hl
  subst hl
  exact ⟨v', rfl, ho, hb⟩
set_option maxHeartbeats 4000000 in
theorem ask_kinds (h : Q0 W gp gw gb v ks) : Calls Tryz.prog 56 #[.pointer (some ⟨gw, 0, none⟩)] W fun e w' => ∃ v', e = .returned v' ∧ Ka W.heap.size w' v' ks ∧ Below W.heap.size W w' := by
  obtain ⟨-, ⟨own, N, vk, gp, gm, gt, q, T, h1, h2, h3, h4, h5, h6⟩, -⟩ := h
  obtain ⟨c0, -⟩ := h1.cells
  have hk := h1.2.2.2.1.kr
  have J := hide (clone_kinds2 hk (by have := h4.2.1; omega) (fun k hk => by have := (h4.2.2.1 k hk).1; omega))
  obtain ⟨ao, c, rfl, -⟩ := hk
  clear h1 h2 h3 h4 h5 h6
  go_enter Tryz.func56, Tryz.ntmps56
  go_wp2_with fail
  refine J.out.mono ?_
  rintro e w1 ⟨v1, rfl, k1, b1⟩
  have K1 := hide k1
  have B1 := hide b1
  obtain ⟨L, k2, -⟩ := k1
  obtain ⟨a1, c1, rfl⟩ := own_len k2
  clear k2 b1 J
  go_wp2_with fail
  go_ret
  exact ⟨_, rfl, K1.out, B1.out⟩
theorem Q0.may (h : Q0 W gp gw gb v ks) : mayB ks := by
  obtain ⟨-, ⟨own, N, vk, gp, gm, gt, q, T, h1, h2, h3, h4, h5, h6⟩, -⟩ := h
  exact h4
theorem Ko.later {B : Nat} (h : Ko B W v ks) (hb : Below W.heap.size W W') : Ko B W' v ks := by
  obtain ⟨L, h1, h2, h3⟩ := h
  exact ⟨L, own_later h1 hb, h2, fun i i1 i2 => ⟨(h3 i i1 i2).1, own_later (h3 i i1 i2).2 hb⟩⟩
theorem Ka.later {B : Nat} (h : Ka B W v ks) (hb : Below W.heap.size W W') : Ka B W' v ks := by
  obtain ⟨L, h1, h2, h3, h4⟩ := h
  exact ⟨L, own_later h1 hb, h2, fun i i1 i2 => ⟨(h3 i i1 i2).1, own_later (h3 i i1 i2).2 hb⟩, h4⟩
theorem Mi.later {g n : Nat} {q : Nat → Option Nat} (h : Mi W g n q) (hb : Below W.heap.size W W') : Mi W' g n q := h.same (hb.block g h.lt)
/-- Kinds stay where their blocks stay. -/
theorem Ko.mv {B : Nat} {S : Nat → Prop} (h : Ko B W v ks) (hm : Mv W W' S) (hs : ∀ q, B ≤ q → q < W.heap.size → ¬ S q) : Ko B W' v ks := by
  obtain ⟨L, h1, h2, h3⟩ := h
  exact ⟨L, hm.own h1 (fun q e => hs q (h1.lt q e).1 (h1.lt q e).2), h2, fun i i1 i2 => ⟨(h3 i i1 i2).1, hm.own (h3 i i1 i2).2 (fun q e => hs q ((h3 i i1 i2).2.lt q e).1 ((h3 i i1 i2).2.lt q e).2)⟩⟩
end
theorem conv00 {B : Nat} {W : World} {v : Value} (h : W.ownsRow B 5 1 v 2 (Lib.byteCells [0, 0])) : (convert 51 9 v).run Tryz.prog W = .ok (.string ⟨#[0, 0]⟩) W := Pak.conv_bs (bs_own (l := [0, 0]) h rfl)
end Go.Proofs.YtafmiolehlagkaaGreat
