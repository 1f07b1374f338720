/-
  LexApart: the walk.
-/
import Derived.Test.YtaaiogfbohndaaaDoorShown
import Derived.Test.YtaaiogfbohndaaaDoorApR
namespace Go.Proofs.YtaaiogfbohndaaaDoor
open Go.RowKit
set_option maxRecDepth 1000000

/-- The tokens in memory. -/
def TkC (W : World) (g : Nat) (s : ByteArray) (l : List Tk) : Prop := ∀ i (hi : i < l.length), W.cell? ⟨g, i * 3, none⟩ = some (.int .i64 (l[i].k : Nat)) ∧ W.cell? ⟨g, i * 3 + 1, none⟩ = some (.string (s.extract l[i].a l[i].e)) ∧ W.cell? ⟨g, i * 3 + 2, none⟩ = some (.int .i64 (l[i].a : Nat))
theorem tz_at (s : ByteArray) : ∀ (l : List Tk) (i : Nat) (hi : i < l.length), (tz s l)[i * 3]? = some (.int .i64 (l[i].k : Nat)) ∧ (tz s l)[i * 3 + 1]? = some (.string (s.extract l[i].a l[i].e)) ∧ (tz s l)[i * 3 + 2]? = some (.int .i64 (l[i].a : Nat))
  | [], i, hi => absurd hi (Nat.not_lt_zero _)
  | t :: r, 0, hi => ⟨rfl, rfl, rfl⟩
  | t :: r, i + 1, hi => by
    have ih := tz_at s r i (by simpa using hi)
    have e : tz s (t :: r) = [.int .i64 (t.k : Nat), .string (s.extract t.a t.e), .int .i64 (t.a : Nat)] ++ tz s r := rfl
    have q : ∀ j, (tz s (t :: r))[j + 3]? = (tz s r)[j]? := fun j => by rw [e, List.getElem?_append_right (by simp)]; simp
    refine ⟨?_, ?_, ?_⟩
    · rw [show (i + 1) * 3 = i * 3 + 3 by omega, q]; exact ih.1
    · rw [show (i + 1) * 3 + 1 = i * 3 + 1 + 3 by omega, q]; exact ih.2.1
    · rw [show (i + 1) * 3 + 2 = i * 3 + 2 + 3 by omega, q]; exact ih.2.2
theorem tkC_of {w W : World} {b g cap : Nat} {s : ByteArray} {l : List Tk} (h : w.ownsRow b 48 3 (.slice (some ⟨g, 0, none⟩) l.length cap) l.length (tz s l)) (hb : Below w.heap.size w W) : TkC W g s l := by
  intro i hi
  have h4 := own_later h hb
  obtain ⟨a1, a2, a3⟩ := tz_at s l i hi
  exact ⟨(h4.cellAt (i * 3) (by omega)).trans a1, (h4.cellAt (i * 3 + 1) (by omega)).trans a2, (h4.cellAt (i * 3 + 2) (by omega)).trans a3⟩

theorem stopCalls {P : Program} {f : FuncId} {args : Array Value} {w : World} {Q : Ending → World → Prop} (h : Stop (Calls P f args w Q)) : Calls P f args w Q := h
theorem below_drw {B : Nat} {a w : World} (h : Below B a w) (n : Nat) : Below B a (w.drewN n) := h.trans ⟨rfl, rfl, rfl, Nat.le_refl _, fun _ _ => rfl⟩
def apF (s S : ByteArray) (v lv gv : Value) (en i : Nat) (u : Nat → Value) : Act := { tmps := #[.string s, v, undef, undef, .bool false, .bool true, lv, .nilIface, gv, .string S, .int .i64 (en : Nat), .int .i64 (i : Nat), u 12, u 13, u 14, u 15, u 16, u 17, u 18, u 19, u 20, u 21, u 22, u 23, u 24, u 25, u 26, u 27, u 28, u 29, u 30, u 31, u 32, u 33, u 34, u 35, u 36, u 37, u 38, u 39, u 40, u 41, u 42, u 43, u 44, u 45, u 46, u 47, u 48, u 49, u 50, u 51, u 52, u 53, u 54, u 55, u 56, u 57, u 58, u 59, u 60, u 61, u 62, u 63, u 64, u 65, u 66, u 67, u 68, u 69, u 70, u 71, u 72, u 73, u 74, u 75, u 76, u 77, u 78, u 79, u 80, u 81, u 82, u 83, u 84, u 85, u 86, u 87, u 88, u 89, u 90, u 91, u 92, u 93, u 94, u 95, u 96, u 97, u 98, u 99, u 100, u 101, u 102, u 103, u 104, u 105, u 106, u 107, u 108, u 109, u 110, u 111, u 112, u 113, u 114, u 115, u 116, u 117, u 118, u 119, u 120, u 121, u 122, u 123, u 124, u 125, u 126, u 127, u 128, u 129, u 130, u 131, u 132, u 133, u 134, u 135, u 136, u 137, u 138, u 139, u 140, u 141, u 142, u 143, u 144, u 145, u 146, u 147, u 148, u 149, u 150, u 151, u 152, u 153, u 154, u 155, u 156, u 157, u 158, u 159, u 160, u 161, u 162, u 163, u 164, u 165, u 166, u 167, u 168, u 169, u 170, u 171, u 172, u 173, u 174, u 175, u 176, u 177, u 178, u 179, u 180, u 181, u 182, u 183, u 184, u 185, u 186, u 187, u 188, u 189, u 190, u 191], defers := [] }
/-- Before the i-th token; or behind the last. -/
def ApK (s S : ByteArray) (l : List Tk) (en i : Nat) : Prop := S.size ≤ en + 8 * i ∧ en ≤ s.size ∧ i ≤ l.length ∧
  ((i < l.length ∧ Chn (bt s) s.size en (l.drop i) ∧ Pre S (kt s (l.take i))) ∨ (i = l.length ∧ ∃ lf, lexS S = .ok lf ∧ kt S lf = kt s l))
theorem ap_next {s S : ByteArray} {l : List Tk} {en i k a e : Nat} (j : Nat) (h1 : S.size ≤ en + 8 * i) (hi : i < l.length) (hdr : l.drop i = l[i] :: l.drop (i + 1)) (ht : (⟨k, a, e⟩ : Tk) = l[i])
    (hc : Chn (bt s) s.size en (l.drop i)) (hp : Pre S (kt s (l.take i))) (hea : en ≤ a ∧ a ≤ e ∧ e ≤ s.size) : ApK s ((S ++ gapB j) ++ s.extract a e) l e (i + 1) := by
  have hG := (gapB_le j).1
  have hzT : (s.extract a e).size = e - a := by rw [ByteArray.size_extract]; omega
  have hkt : kt s (l.take (i + 1)) = kt s (l.take i) ++ [(k, s.extract a e)] := by
    rw [List.take_succ_eq_append_getElem hi, ← ht]
    simp [kt]
  refine ⟨by rw [size_app, size_app, hzT]; omega, hea.2.2, hi, ?_⟩
  rw [hdr, ← ht] at hc
  rcases hc with ⟨e1, e2, e3⟩ | ⟨e1, e2, e3⟩
  · injection e1 with e1 e4 e5
    subst e1 e4 e5
    right
    have hl : i + 1 = l.length := by
      have := congrArg List.length e2
      simp at this
      omega
    refine ⟨hl, ?_⟩
    have hT : s.extract s.size s.size = ByteArray.empty := by simp
    rw [hT]
    obtain ⟨lf, f1, f2⟩ := pre_end hp j
    refine ⟨lf, f1, f2.trans ?_⟩
    rw [hT] at hkt
    rw [← hkt, hl, List.take_length]
  · left
    have hnl : l.drop (i + 1) ≠ [] := fun h => by rw [h] at e3; exact e3
    have : i + 1 < l.length := by
      have := List.length_pos_iff.2 hnl
      simp at this
      omega
    refine ⟨this, e3, ?_⟩
    rw [hkt]
    exact pre_step hp j e2
def apG (lv mv : Value) (q : Nat) (u : Nat → Value) : Act := { tmps := #[u 0, u 1, u 2, u 3, u 4, u 5, lv, u 7, u 8, u 9, u 10, u 11, u 12, u 13, u 14, u 15, mv, u 17, .int .i64 (q : Nat), u 19, u 20, u 21, u 22, u 23, u 24, u 25, u 26, u 27, u 28, u 29, u 30, u 31, u 32, u 33, u 34, u 35, u 36, u 37, u 38, u 39, u 40, u 41, u 42, u 43, u 44, u 45, u 46, u 47, u 48, u 49, u 50, u 51, u 52, u 53, u 54, u 55, u 56, u 57, u 58, u 59, u 60, u 61, u 62, u 63, u 64, u 65, u 66, u 67, u 68, u 69, u 70, u 71, u 72, u 73, u 74, u 75, u 76, u 77, u 78, u 79, u 80, u 81, u 82, u 83, u 84, u 85, u 86, u 87, u 88, u 89, u 90, u 91, u 92, u 93, u 94, u 95, u 96, u 97, u 98, u 99, u 100, u 101, u 102, u 103, u 104, u 105, u 106, u 107, u 108, u 109, u 110, u 111, u 112, u 113, u 114, u 115, u 116, u 117, u 118, u 119, u 120, u 121, u 122, u 123, u 124, u 125, u 126, u 127, u 128, u 129, u 130, u 131, u 132, u 133, u 134, u 135, u 136, u 137, u 138, u 139, u 140, u 141, u 142, u 143, u 144, u 145, u 146, u 147, u 148, u 149, u 150, u 151, u 152, u 153, u 154, u 155, u 156, u 157, u 158, u 159, u 160, u 161, u 162, u 163, u 164, u 165, u 166, u 167, u 168, u 169, u 170, u 171, u 172, u 173, u 174, u 175, u 176, u 177, u 178, u 179, u 180, u 181, u 182, u 183, u 184, u 185, u 186, u 187, u 188, u 189, u 190, u 191], defers := [] }
def ApJ (lv mv : Value) (n : Nat) (w2 : World) (m : Nat) (A : Act) (W : World) : Prop := Below w2.heap.size w2 W ∧ ∃ q : Nat, A = apG lv mv q (fun k => A.tmps.getD k undef) ∧ q ≤ n ∧ m = n - q
theorem kt_at {s S : ByteArray} {l lf : List Tk} (h : kt S lf = kt s l) (hl : lf.length = l.length) (q : Nat) (hq : q < l.length) : (lf[q]'(by omega)).k = l[q].k ∧ S.extract (lf[q]'(by omega)).a (lf[q]'(by omega)).e = s.extract l[q].a l[q].e := by
  have e := congrArg (fun x => x[q]?) h
  simp only [kt, List.getElem?_map, List.getElem?_eq_getElem hq, List.getElem?_eq_getElem (show q < lf.length by omega), Option.map_some, Option.some.injEq, Prod.mk.injEq] at e
  exact e
def ApI (s : ByteArray) (v lv gv : Value) (l : List Tk) (w2 : World) (m : Nat) (A : Act) (W : World) : Prop := Below w2.heap.size w2 W ∧ Wd W ∧ ∃ (S : ByteArray) (en i : Nat), A = apF s S v lv gv en i (fun k => A.tmps.getD k undef) ∧ ApK s S l en i ∧ m = l.length - i

set_option maxHeartbeats 16000000 in
theorem apart_walk (s : ByteArray) (ao : Option Addr) (ln cp : Nat) (w : World) (hw : Wd w) (hln : ln ≤ 9223372036854775807)
    (hg : ∀ i, i < ln → ∃ a, ao = some a ∧ ∃ d : Int, (d ≤ 9223372036854775807 ∧ -9223372036854775808 ≤ d) ∧ w.cell? (a.add i) = some (.int .i64 d)) :
    Calls Tryd.prog 6 #[.string s, .slice ao ln cp] w fun e w' => e = .returned (.bool true) ∧ Below w.heap.size w w' := by
  have HG := hide hg
  clear hg
  go_enter Tryd.func6, Tryd.ntmps6
  go_upto_region 2 with (go_at_call 8; refine (shown_any w hw).mono ?_; rintro e w1 ⟨rfl, hb1, hw1⟩)
  have HB1 := hide hb1
  clear hb1
  go_upto_region 3 with (go_at_call 9; refine (lex_any s _ hw1).mono ?_; rintro e w2 ⟨hb2, hw2, ⟨l, lv, hs, hl, hl8, rfl, how⟩ | ⟨at1, N1, er, hcs, rfl, _⟩⟩)
  rotate_left
  · have HB2 := hide (HB1.out.trans (hb2.mono HB1.out.size))
    clear hb2
    go_wp2
    go_ret
    exact ⟨rfl, HB2.out⟩
  have hne : l ≠ [] := fun h => by
    have := chn_lexA (bt_z s) (Nat.zero_le _) hl
    rw [h] at this
    exact this
  have how' := how
  obtain ⟨_, ⟨_, h7⟩ | ⟨g, cap, cur, rfl, _⟩⟩ := how'
  · exact absurd (List.length_eq_zero_iff.1 h7) hne
  have hlp : 0 < l.length := List.length_pos_iff.2 hne
  have HOW := hide how
  have HB2 := hide (HB1.out.trans (hb2.mono HB1.out.size))
  have HL := hide hl
  have HNE := hide hne
  clear hb2 how hl hne HB1
  go_upto_region 11 with fail
  have hb3 : Below w2.heap.size w2 (w2.alloc (.cells #[.string ⟨#[32]⟩, .string ⟨#[10]⟩, .string ⟨#[32, 47, 42, 32, 120, 32, 42, 47]⟩, .string ⟨#[9, 47, 47, 32, 121, 10]⟩, .string ⟨#[13, 32]⟩] 9)) := (Below.refl _ w2).alloc (Nat.le_refl _) _
  have hh3 : (w2.alloc (.cells #[.string ⟨#[32]⟩, .string ⟨#[10]⟩, .string ⟨#[32, 47, 42, 32, 120, 32, 42, 47]⟩, .string ⟨#[9, 47, 47, 32, 121, 10]⟩, .string ⟨#[13, 32]⟩] 9)).heap[w2.heap.size]? = some (.cells #[.string ⟨#[32]⟩, .string ⟨#[10]⟩, .string ⟨#[32, 47, 42, 32, 120, 32, 42, 47]⟩, .string ⟨#[9, 47, 47, 32, 121, 10]⟩, .string ⟨#[13, 32]⟩] 9 (0, 0)) := Array.getElem?_push_size
  generalize w2.alloc (.cells #[.string ⟨#[32]⟩, .string ⟨#[10]⟩, .string ⟨#[32, 47, 42, 32, 120, 32, 42, 47]⟩, .string ⟨#[9, 47, 47, 32, 121, 10]⟩, .string ⟨#[13, 32]⟩] 9) = w3 at *
  have hlt3 : w2.heap.size < w3.heap.size := (Array.getElem?_eq_some_iff.1 hh3).1
  have hgc : ∀ (j : Nat), j < 5 → w3.cell? ⟨w2.heap.size, j, none⟩ = some (.string (gapB j)) := fun j hj => by
    rw [cell_of_row _ _ _ _ 9 (0, 0) hh3]
    match j, hj with
    | 0, _ => rfl
    | 1, _ => rfl
    | 2, _ => rfl
    | 3, _ => rfl
    | 4, _ => rfl
  have HGC : Hid (∀ (W : World), Below w3.heap.size w3 W → ∀ (j : Nat), j < 5 → W.cell? ⟨w2.heap.size, j, none⟩ = some (.string (gapB j))) := fun W hW j hj => (hW.cell (p := ⟨w2.heap.size, j, none⟩) hlt3).trans (hgc j hj)
  have HB3 := hide (HB2.out.trans (hb3.mono HB2.out.size))
  have HTK : Hid (∀ (W : World), Below w3.heap.size w3 W → TkC W g s l) := fun W hW => tkC_of HOW.out (hb3.trans (hW.mono hb3.size))
  have HG3 : Hid (∀ (W : World), Below w3.heap.size w3 W → ∀ i, i < ln → ∃ a, ao = some a ∧ ∃ d : Int, (d ≤ 9223372036854775807 ∧ -9223372036854775808 ≤ d) ∧ W.cell? (a.add i) = some (.int .i64 d)) := fun W hW i hi => by
    obtain ⟨a, e1, d, e2, e3⟩ := HG.out i hi
    have hlt : (a.add i).block < w.heap.size := World.block_lt_of_cell? _ _ e3
    refine ⟨a, e1, d, e2, ?_⟩
    rw [(HB3.out.trans (hW.mono HB3.out.size)).cell hlt]
    exact e3
  have hw3 : Wd w3 := hw2.below hw2.lt hb3
  have HI : Hid (ApK s ByteArray.empty l 0 0) := ⟨Nat.zero_le _, Nat.zero_le _, Nat.zero_le _, Or.inl ⟨hlp, by rw [List.drop_zero]; exact chn_lexA (bt_z s) (Nat.zero_le _) HL.out, by rw [List.take_zero]; exact pre_nil⟩⟩
  clear hgc hh3 hb3 HB2 HOW HG hw hw1 hw2 hlt3
  generalize w2.heap.size = gb at *
  refine loop_ghost (ApI s (.slice ao ln cp) (.slice (some ⟨g, 0, none⟩) l.length cap) (.slice (some ⟨gb, 0, none⟩) 5 5) l w3) l.length ⟨Below.refl _ _, hw3, ByteArray.empty, 0, 0, rfl, HI.out, rfl⟩ ?_
  clear HI
  have hw3' := hw3
  clear hw3
  rintro m A W ⟨hbW, hwW, S, en, i, hA, hK, hm⟩
  generalize (fun k => A.tmps.getD k undef) = u at hA
  subst hA
  simp only [apF]
  have HK := hide hK
  have HM := hide hm
  have HBW := hide hbW
  obtain ⟨q1, q2, q3, q4⟩ := hK
  by_cases hi : i < l.length
  · obtain ⟨f0, f1, f2⟩ := HTK.out W hbW i hi
    have HQ : Hid (Chn (bt s) s.size en (l.drop i) ∧ Pre S (kt s (l.take i))) := by
      rcases q4 with h | h
      · exact h.2
      · omega
    have hdr : l.drop i = l[i] :: l.drop (i + 1) := List.drop_eq_getElem_cons hi
    obtain ⟨tk, htk⟩ : ∃ t, t = l[i] := ⟨_, rfl⟩
    have HTT := hide htk
    have HDR := hide hdr
    rw [← htk] at f0 f1 f2
    obtain ⟨k, a, e⟩ := tk
    simp only at f0 f1 f2
    have hfacts : en ≤ a ∧ a ≤ e ∧ e ≤ s.size ∧ (k = 0 ↔ i + 1 = l.length) ∧ (k = 0 ↔ a = e) ∧ k ≤ 3 ∧ lexS (s.extract en a) = .ok [⟨0, a - en, a - en⟩] := by
      have hc := HQ.out.1
      rw [hdr, ← htk] at hc
      rcases hc with ⟨e1, e2, e3⟩ | ⟨e1, e2, e3⟩
      · injection e1 with e1 e4 e5
        subst e1 e4 e5
        have hle := (e3.le (bt_z s)).1
        have : l.length ≤ i + 1 := by
          have := congrArg List.length e2
          simp at this
          omega
        exact ⟨hle, Nat.le_refl _, Nat.le_refl _, by simp; omega, by simp, by omega, between_lex e3 (Nat.le_refl _)⟩
      · obtain ⟨_, t1, t2, t3, t4⟩ := stepL_tok (bt_z s) e2
        simp only at t1 t2 t3 t4
        have hle := (e1.le (bt_z s)).1
        have hnl : l.drop (i + 1) ≠ [] := fun h => by rw [h] at e3; exact e3
        have : i + 1 < l.length := by
          have := List.length_pos_iff.2 hnl
          simp at this
          omega
        simp only at hle
        exact ⟨hle, by omega, t2, by omega, by omega, t4, between_lex e1 (by omega)⟩
    obtain ⟨g1, g2, g3, g4, g5, g6, g7⟩ := hfacts
    have HG7 := hide g7
    clear q4 hm hbW g7 htk hdr
    go_upto_region 14 with fail
    obtain ⟨bo, hbo⟩ : ∃ b : Bool, b = decide (k = 0) := ⟨_, rfl⟩
    have d1 : decide (a < en) = false := decide_eq_false (by omega)
    have wr : IntKind.i64.wrap ((a : Int) + ((e - a : Nat) : Int)) = (e : Int) := by
      rw [show (a : Int) + ((e - a : Nat) : Int) = (e : Int) by omega]
      simp [IntKind.wrap, IntKind.signed, IntKind.bits]
      omega
    have d2 : decide (s.size < e) = false := decide_eq_false (by omega)
    have wr2 : IntKind.i64.wrap ((l.length : Int) - 1) = (l.length : Int) - 1 := by
      simp [IntKind.wrap, IntKind.signed, IntKind.bits]
      omega
    have k1 : ((k : Int) == 0) = bo := by rw [hbo, Bool.eq_iff_iff]; simp
    have k2 : (k == 0) = bo := by rw [hbo, Bool.eq_iff_iff]; simp
    have i1 : ((i : Int) == (l.length : Int) - 1) = bo := by rw [hbo, Bool.eq_iff_iff]; simp; omega
    have hzT : (s.extract a e).size = e - a := by rw [ByteArray.size_extract]; omega
    have e1 : (s.extract a e).toList.isEmpty = bo := by
      rw [hbo, Bool.eq_iff_iff, Lib.toList_data, List.isEmpty_iff, ← List.length_eq_zero_iff, Array.length_toList]
      have : (s.extract a e).data.size = e - a := hzT
      rw [this]
      simp
      omega
    clear hbo
    go_quiet (fail)
    rename_i K0 hK0
    refine hK0 _ _ ?_
    clear hK0 wr wr2 d1 d2 k1 k2 i1 e1
    have hb4 : Below w3.heap.size w3 ((W.alloc (.cells #[.int .i64 (k : Nat), .string (s.extract a e), .int .i64 (a : Nat)] 48)).drewN nq) := (below_drw ((HBW.out).alloc HBW.out.size _) nq)
    have hh4 : ((W.alloc (.cells #[.int .i64 (k : Nat), .string (s.extract a e), .int .i64 (a : Nat)] 48)).drewN nq).heap[W.heap.size]? = some (.cells #[.int .i64 (k : Nat), .string (s.extract a e), .int .i64 (a : Nat)] 48 (0, 0)) := by
      rw [World.heap_drewN]
      exact Array.getElem?_push_size
    generalize (W.alloc (.cells #[.int .i64 (k : Nat), .string (s.extract a e), .int .i64 (a : Nat)] 48)).drewN nq = W4 at *
    have hlt4 : W.heap.size < W4.heap.size := (Array.getElem?_eq_some_iff.1 hh4).1
    have x0 := cell_of_row _ _ 0 _ 48 (0, 0) hh4
    have x1 := cell_of_row _ _ 1 _ 48 (0, 0) hh4
    have x2 := cell_of_row _ _ 2 _ 48 (0, 0) hh4
    simp only [List.getElem?_toArray, List.getElem?_cons_zero, List.getElem?_cons_succ] at x0 x1 x2
    have HX : Hid (∀ W5 : World, Below W4.heap.size W4 W5 → W5.cell? ⟨W.heap.size, 1, none⟩ = some (.string (s.extract a e)) ∧ W5.cell? ⟨W.heap.size, 2, none⟩ = some (.int .i64 (a : Nat))) := fun W5 h5 => ⟨(h5.cell (p := ⟨W.heap.size, 1, none⟩) hlt4).trans x1, (h5.cell (p := ⟨W.heap.size, 2, none⟩) hlt4).trans x2⟩
    have hw4 : Wd W4 := hw3'.below hw3'.lt hb4
    have HB4 := hide hb4
    have c9 := lex_ok (s.extract en a) _ (by rw [ByteArray.size_extract]; omega) HG7.out (by simp) W4 hw4
    simp only [List.length_cons, List.length_nil, Nat.zero_add] at c9
    clear hh4 hb4 x0 x1
    go_upto_region 19 with (go_at_call 9; refine c9.mono ?_; rintro e' W5 ⟨hb5, hw5, g', cap', rfl, _⟩)
    obtain ⟨y1, y2⟩ := HX.out W5 hb5
    have HB5 := hide (HB4.out.trans (hb5.mono HB4.out.size))
    clear hb5 c9 HX x2
    have wr : IntKind.i64.wrap ((a : Int) + ((e - a : Nat) : Int)) = (e : Int) := by
      rw [show (a : Int) + ((e - a : Nat) : Int) = (e : Int) by omega]
      simp [IntKind.wrap, IntKind.signed, IntKind.bits]
      omega
    have hee : (a : Int) + ((e - a : Nat) : Int) = (e : Int) := by omega
    by_cases hl0 : ln = 0
    · subst hl0
      have z0 := HGC.out W5 HB5.out 0 (by omega)
      go_upto_region 25 with fail
      have hG8 := (gapB_le 0).1
      have n1 : ¬ 9223372036854775807 < S.size + (gapB 0).size := by omega
      have n2 : ¬ 9223372036854775807 < S.size + (gapB 0).size + (e - a) := by omega
      have n3 : ¬ 9223372036854775807 < (S ++ gapB 0).size + (s.extract a e).size := by rw [size_app, hzT]; exact n2
      go_quiet (fail)
      rename_i K9 hK9
      refine hK9 _ _ ?_
      clear hK9
      have HB6 := hide (below_drw HB5.out nq)
      have hw6 : Wd (W5.drewN nq) := hw3'.below hw3'.lt HB6.out
      generalize W5.drewN nq = W6 at *
      have HN := hide (ap_next 0 q1 hi HDR.out HTT.out HQ.out.1 HQ.out.2 ⟨g1, g2, g3⟩)
      clear HQ HDR HTT HTK HGC HG3
      go_wp2
      have := HM.out
      exact ⟨l.length - (i + 1), by omega, HB6.out, hw6, _, e, i + 1, rfl, HN.out, rfl⟩
    · obtain ⟨ga, rfl, d, hd, hcell⟩ := HG3.out W5 HB5.out (i % ln) (Nat.mod_lt _ (by omega))
      have hml := Nat.mod_lt i (show 0 < ln by omega)
      by_cases hd0 : d < 0
      · obtain ⟨kk, hkk⟩ : ∃ kk : Nat, (kk : Int) = -(d + 1) := ⟨(-(d + 1)).toNat, by omega⟩
        have hj : (kk : Int).tmod 5 = ((kk % 5 : Nat) : Int) := by rw [Int.tmod_eq_emod_of_nonneg (by omega)]; omega
        have hj2 : (kk : Int) % 5 = ((kk % 5 : Nat) : Int) := by omega
        obtain ⟨jj, hjj⟩ : ∃ jj, jj = kk % 5 := ⟨_, rfl⟩
        rw [← hjj] at hj hj2
        have hj5 : jj < 5 := by omega
        clear hjj hj2
        have z0 := HGC.out W5 HB5.out jj hj5
        have hj6 : (jj : Int) < 5 := by omega
        have hj7 : (0 : Int) ≤ (jj : Int) := by omega
        have HKK := hide hkk
        clear hkk
        go_upto_region 25 with fail
        rw [← HKK.out]
        have hG8 := (gapB_le jj).1
        have n1 : ¬ 9223372036854775807 < S.size + (gapB jj).size := by omega
        have n2 : ¬ 9223372036854775807 < S.size + (gapB jj).size + (e - a) := by omega
        have n3 : ¬ 9223372036854775807 < (S ++ gapB jj).size + (s.extract a e).size := by rw [size_app, hzT]; exact n2
        go_quiet (fail)
        rename_i K9 hK9 _
        refine hK9 _ _ ?_
        clear hK9
        have HB6 := hide (below_drw HB5.out nq)
        have hw6 : Wd (W5.drewN nq) := hw3'.below hw3'.lt HB6.out
        generalize W5.drewN nq = W6 at *
        have HN := hide (ap_next jj q1 hi HDR.out HTT.out HQ.out.1 HQ.out.2 ⟨g1, g2, g3⟩)
        clear HQ HDR HTT HTK HGC HG3
        go_wp2
        have := HM.out
        exact ⟨l.length - (i + 1), by omega, HB6.out, hw6, _, e, i + 1, rfl, HN.out, rfl⟩
      · obtain ⟨kk, hkk⟩ : ∃ kk : Nat, (kk : Int) = d := ⟨(d).toNat, by omega⟩
        have hj : (kk : Int).tmod 5 = ((kk % 5 : Nat) : Int) := by rw [Int.tmod_eq_emod_of_nonneg (by omega)]; omega
        have hj2 : (kk : Int) % 5 = ((kk % 5 : Nat) : Int) := by omega
        obtain ⟨jj, hjj⟩ : ∃ jj, jj = kk % 5 := ⟨_, rfl⟩
        rw [← hjj] at hj hj2
        have hj5 : jj < 5 := by omega
        clear hjj hj2
        have z0 := HGC.out W5 HB5.out jj hj5
        have hj6 : (jj : Int) < 5 := by omega
        have hj7 : (0 : Int) ≤ (jj : Int) := by omega
        have HKK := hide hkk
        clear hkk
        go_upto_region 25 with fail
        rw [← HKK.out]
        have hG8 := (gapB_le jj).1
        have n1 : ¬ 9223372036854775807 < S.size + (gapB jj).size := by omega
        have n2 : ¬ 9223372036854775807 < S.size + (gapB jj).size + (e - a) := by omega
        have n3 : ¬ 9223372036854775807 < (S ++ gapB jj).size + (s.extract a e).size := by rw [size_app, hzT]; exact n2
        go_quiet (fail)
        rename_i K9 hK9 _
        refine hK9 _ _ ?_
        clear hK9
        have HB6 := hide (below_drw HB5.out nq)
        have hw6 : Wd (W5.drewN nq) := hw3'.below hw3'.lt HB6.out
        generalize W5.drewN nq = W6 at *
        have HN := hide (ap_next jj q1 hi HDR.out HTT.out HQ.out.1 HQ.out.2 ⟨g1, g2, g3⟩)
        clear HQ HDR HTT HTK HGC HG3
        go_wp2
        have := HM.out
        exact ⟨l.length - (i + 1), by omega, HB6.out, hw6, _, e, i + 1, rfl, HN.out, rfl⟩
  · obtain ⟨hil, lf, f1, f2⟩ : i = l.length ∧ ∃ lf, lexS S = .ok lf ∧ kt S lf = kt s l := by
      rcases q4 with h | h
      · omega
      · exact h
    have hlen : lf.length = l.length := by
      have := congrArg List.length f2
      simpa [kt] using this
    have HB7 := hide (HB3.out.trans (hbW.mono HB3.out.size))
    have HF2 := hide f2
    clear HGC HG3 q4 hm HM HK f2
    by_cases hS : S.size ≤ 8000
    · have c9 := lex_ok S lf hS f1 (fun h => by rw [h] at hlen; simp at hlen; omega) W hwW
      rw [hlen] at c9
      go_wp2_with (first | (go_at_call 9; refine c9.mono ?_; rintro e W2 ⟨hb8, hw8, g2, cap2, rfl, ho2⟩) | fail)
      have HT2 : Hid (∀ W3 : World, Below W2.heap.size W2 W3 → TkC W3 g2 S lf) := fun W3 h3 => by
        rw [← hlen] at ho2
        exact tkC_of ho2 h3
      have HB8 := hide (HB7.out.trans (hb8.mono HB7.out.size))
      have HT1 : Hid (∀ W3 : World, Below W2.heap.size W2 W3 → TkC W3 g s l) := fun W3 h3 => HTK.out W3 ((hbW.trans (hb8.mono hbW.size)).trans (h3.mono (Nat.le_trans hbW.size hb8.size)))
      clear ho2 hb8 hw8 c9 HTK hbW hwW f1
      refine loop_ghost (ApJ (.slice (some ⟨g, 0, none⟩) l.length cap) (.slice (some ⟨g2, 0, none⟩) l.length cap2) l.length W2) l.length ⟨Below.refl _ _, 0, rfl, Nat.zero_le _, rfl⟩ ?_
      rintro m2 A2 W3 ⟨hb3, q, hA, hq, hm2⟩
      generalize (fun k => A2.tmps.getD k undef) = u2 at hA
      subst hA
      simp only [apG]
      have HB9 := hide hb3
      by_cases hql : q < l.length
      · obtain ⟨a0, a1, _⟩ := HT1.out W3 hb3 q hql
        obtain ⟨b0, b1, _⟩ := HT2.out W3 hb3 q (by omega)
        obtain ⟨k0, k1⟩ := kt_at HF2.out hlen q hql
        rw [k0] at b0
        rw [k1] at b1
        generalize l[q].k = kq at *
        generalize s.extract l[q].a l[q].e = tq at *
        have HM2 := hide hm2
        clear k0 k1 hm2 hb3
        go_upto_region 34 with fail
        go_quiet (fail)
        rename_i K9 hK9
        refine hK9 _ _ ?_
        clear hK9
        have HB10 := hide (below_drw HB9.out nq)
        generalize W3.drewN nq = W4 at *
        go_wp2
        have := HM2.out
        exact ⟨l.length - (q + 1), by omega, HB10.out, q + 1, rfl, by omega, rfl⟩
      · go_wp2
        go_ret
        exact ⟨rfl, HB8.out.trans (HB9.out.mono HB8.out.size)⟩
    · go_wp2_with (go_at_call 9; apply stopCalls)
      · go_ret
        exact ⟨rfl, HB7.out⟩
end Go.Proofs.YtaaiogfbohndaaaDoor
