/-
  cut: one token.
-/
import Derived.Test.YtaaiogfbohndaaaDoorSgn
namespace Go.Proofs.YtaaiogfbohndaaaDoor
open Go.RowKit
set_option maxRecDepth 1000000

/-- What cut found. -/
def CuD (s : ByteArray) (at0 kd st en : Nat) : Prop := at0 ≤ st ∧ st ≤ en ∧ en ≤ s.size ∧
  ((kd = 0 ∧ st = s.size ∧ en = s.size ∧ lexA (bt s) s.size at0 = .ok [⟨0, s.size, s.size⟩]) ∨ (1 ≤ kd ∧ kd ≤ 3 ∧ st < en ∧ lexA (bt s) s.size at0 = Rs.cons ⟨kd, st, en⟩ (lexA (bt s) s.size en)))
/-- A place at which a token may begin. -/
def CuB (s : ByteArray) (at0 st : Nat) : Prop := at0 ≤ st ∧ st < s.size ∧ Stl (bt s) st ∧ lexA (bt s) s.size at0 = lexA (bt s) s.size st
def CuI (s : ByteArray) (at0 l m st en kd : Nat) : Prop := match l with
  | 0 => lexA (bt s) s.size at0 = .no st ∧ m = 0
  | 1 => CuD s at0 kd st en ∧ m = 0
  | 2 => CuB s at0 st ∧ isLe (bt s st) = true ∧ st ≤ en ∧ en ≤ s.size ∧ runE (fun j => isWo (bt s j)) (s.size - st) st = runE (fun j => isWo (bt s j)) (s.size - en) en ∧ m = 1 + (s.size - en)
  | 3 => CuB s at0 st ∧ isLe (bt s st) = false ∧ isDi (bt s st) = true ∧ st ≤ en ∧ en ≤ s.size ∧ runE (fun j => isDi (bt s j)) (s.size - st) st = runE (fun j => isDi (bt s j)) (s.size - en) en ∧ m = 1 + (s.size - en)
  | 4 => CuB s at0 st ∧ isLe (bt s st) = false ∧ isDi (bt s st) = false ∧ en = st ∧ m = 1
  | _ => False
/-- The world in between: one cell for the token. -/
def CuW (w0 w : World) : Prop := Below w0.heap.size w0 w ∧ w.heap[w0.heap.size]? = some (.cells #[.int .i64 0, .string ByteArray.empty, .int .i64 0] 48 (0, 0)) ∧ Wd w
def cuF (s : ByteArray) (at0 T st en kd : Nat) (bo : Bool) (u : Nat → Value) : Act := { tmps := #[.string s, .int .i64 (at0 : Nat), undef, undef, .pointer (some ⟨T, 0, none⟩), .bool bo, .int .i64 (st : Nat), .int .i64 (en : Nat), .int .i64 (kd : Nat), u 9, u 10, u 11, u 12, u 13, u 14, u 15, u 16, u 17, u 18, u 19, u 20, u 21, u 22, u 23, u 24, u 25, u 26, u 27, u 28, u 29, u 30, u 31, u 32, u 33, u 34, u 35, u 36, u 37, u 38, u 39, u 40, u 41, u 42, u 43, u 44, u 45, u 46, u 47, u 48, u 49, u 50, u 51, u 52, u 53, u 54, u 55, u 56, u 57, u 58, u 59, u 60, u 61, u 62, u 63, u 64, u 65, u 66, u 67, u 68, u 69, u 70, u 71, u 72, u 73, u 74, u 75, u 76, u 77, u 78], defers := [] }
def CuJ (s : ByteArray) (at0 : Nat) (w0 : World) (l m : Nat) (a : Act) (w : World) : Prop := CuW w0 w ∧ ∃ (st en kd : Nat) (bo : Bool), a = cuF s at0 w0.heap.size st en kd bo (fun k => a.tmps.getD k undef) ∧ CuI s at0 l m st en kd
theorem cuJ_open {s : ByteArray} {at0 : Nat} {w0 : World} {l m : Nat} {a : Act} {w : World} (h : CuJ s at0 w0 l m a w) :
    CuW w0 w ∧ ∃ (st en kd : Nat) (bo : Bool) (u : Nat → Value), a = cuF s at0 w0.heap.size st en kd bo u ∧ CuI s at0 l m st en kd := by
  obtain ⟨h1, st, en, kd, bo, h2, h3⟩ := h
  exact ⟨h1, st, en, kd, bo, _, h2, h3⟩

theorem tok_store (w : World) (T : Nat) (x0 x1 x2 a b c : Value) (h : w.heap[T]? = some (.cells #[x0, x1, x2] 48 (0, 0))) :
    (w.cell? ⟨T, 0, none⟩ = some x0 ∧ w.frozen? ⟨T, 0, none⟩ = false) ∧
    ((w.setCell ⟨T, 0, none⟩ a).cell? ⟨T, 1, none⟩ = some x1 ∧ (w.setCell ⟨T, 0, none⟩ a).frozen? ⟨T, 1, none⟩ = false) ∧
    (((w.setCell ⟨T, 0, none⟩ a).setCell ⟨T, 1, none⟩ b).cell? ⟨T, 2, none⟩ = some x2 ∧ ((w.setCell ⟨T, 0, none⟩ a).setCell ⟨T, 1, none⟩ b).frozen? ⟨T, 2, none⟩ = false) ∧
    (((w.setCell ⟨T, 0, none⟩ a).setCell ⟨T, 1, none⟩ b).setCell ⟨T, 2, none⟩ c).heap[T]? = some (.cells #[a, b, c] 48 (0, 0)) := by
  have q0 := heap_setCell_same w T 0 _ 48 a h
  have q1 := heap_setCell_same _ T 1 _ 48 b q0
  have q2 := heap_setCell_same _ T 2 _ 48 c q1
  exact ⟨⟨by rw [cell_of_row w T _ _ 48 (0, 0) h]; rfl, frozen_of_row w T 0 _ 48 h⟩, ⟨by rw [cell_of_row _ T _ _ 48 (0, 0) q0]; rfl, frozen_of_row _ T 1 _ 48 q0⟩, ⟨by rw [cell_of_row _ T _ _ 48 (0, 0) q1]; rfl, frozen_of_row _ T 2 _ 48 q1⟩, q2⟩
theorem tok_below (w0 w : World) (a b c : Value) (h : Below w0.heap.size w0 w) (hw : Wd w) (h0 : 4 < w0.heap.size) :
    Below w0.heap.size w0 (((w.setCell ⟨w0.heap.size, 0, none⟩ a).setCell ⟨w0.heap.size, 1, none⟩ b).setCell ⟨w0.heap.size, 2, none⟩ c) ∧ Wd (((w.setCell ⟨w0.heap.size, 0, none⟩ a).setCell ⟨w0.heap.size, 1, none⟩ b).setCell ⟨w0.heap.size, 2, none⟩ c) := by
  have hb : ∀ (w : World) (k : Nat) (v : Value), Below w0.heap.size w0 w → Below w0.heap.size w0 (w.setCell ⟨w0.heap.size, k, none⟩ v) := fun w k v h => h.setCell (p := ⟨w0.heap.size, k, none⟩) (Nat.le_refl _) v
  have h3 := hb _ 2 c (hb _ 1 b (hb _ 0 a h))
  refine ⟨h3, ?_⟩
  obtain ⟨ev, e1, e2⟩ := hw
  refine ⟨ev, ?_, e2⟩
  rw [← e1, h3.cell h0, h.cell h0]

theorem cuW_alloc (w0 : World) (hw : Wd w0) : CuW w0 (w0.alloc (.cells #[.int .i64 0, .string ByteArray.empty, .int .i64 0] 48)) := by
  have hb : Below w0.heap.size w0 (w0.alloc (.cells #[.int .i64 0, .string ByteArray.empty, .int .i64 0] 48)) := (Below.refl _ w0).alloc (Nat.le_refl _) _
  refine ⟨hb, ?_, hw.below hw.lt hb⟩
  exact Array.getElem?_push_size
theorem cuW_more {w0 w w' : World} (h : CuW w0 w) (hb : Below w.heap.size w w') : CuW w0 w' := by
  obtain ⟨h1, h2, h3⟩ := h
  have hlt : w0.heap.size < w.heap.size := (Array.getElem?_eq_some_iff.1 h2).1
  exact ⟨h1.trans (hb.mono (by omega)), (hb.block _ hlt).trans h2, h3.below h3.lt hb⟩
theorem isnumber_ext (s : ByteArray) (st en : Nat) (hs : s.size ≤ 8000) (h1 : st < en) (h2 : en ≤ s.size) (hd : ∀ j, st ≤ j → j < en → isDi (bt s j) = true) (w : World) (hw : Wd w) :
    Calls Tryd.prog 28 #[.string (s.extract st en)] w fun e w' => e = .returned (.bool (numOk (bt s) st en)) ∧ Below w.heap.size w w' := by
  have hz : (s.extract st en).size = en - st := by rw [ByteArray.size_extract]; omega
  have hdg : Dig (s.extract st en).data.toList := by
    intro c hc
    obtain ⟨i, hi, rfl⟩ := List.mem_iff_getElem.1 hc
    have hi' : i < (s.extract st en).size := by rw [Array.length_toList] at hi; exact hi
    have e1 := bt_ext s st en i h2
    rw [if_pos (by omega)] at e1
    have e2 := hd (st + i) (by omega) (by omega)
    rw [← e1] at e2
    unfold bt at e2
    rw [List.getD_eq_getElem?_getD, List.getElem?_eq_getElem hi] at e2
    exact e2
  have c := isnumber_any (s.extract st en) (by omega) (by omega) hdg w hw
  have e : (((s.extract st en).size == 1 || bt (s.extract st en) 0 != 48) && decide (valL 0 (s.extract st en).data.toList < 9223372036854775808)) = numOk (bt s) st en := by
    unfold numOk
    rw [hz, bt_ext s st en 0 h2, if_pos (by omega), numV_val s (en - st) st 0 (by omega), ext_data]
    have : (en - st == 1) = (en == st + 1) := by
      rw [Bool.eq_iff_iff]; simp; omega
    rw [this]
    rfl
  rw [e] at c
  exact c

set_option maxHeartbeats 8000000 in
theorem cut_any (s : ByteArray) (at0 : Nat) (hat : at0 ≤ s.size) (hs : s.size ≤ 8000) (w0 : World) (hw : Wd w0) :
    Calls Tryd.prog 18 #[.string s, .int .i64 at0] w0 fun e w' => Below w0.heap.size w0 w' ∧ Wd w' ∧
      ((∃ kd st en : Nat, e = .returned (.tuple #[.agg #[.int .i64 kd, .string (s.extract st en), .int .i64 st], .bool true]) ∧ CuD s at0 kd st en) ∨
      (∃ st : Nat, e = .returned (.tuple #[.agg #[.int .i64 0, .string ByteArray.empty, .int .i64 st], .bool false]) ∧ lexA (bt s) s.size at0 = .no st)) := by
  have csk := skip_any s at0 hat hs
  have cpk := peek_any s
  have cle : ∀ (p : Nat) (h : p < s.size) (w : World), Calls Tryd.prog 24 #[.int .u8 ((s[p]'h).toNat : Nat)] w fun e w' => e = .returned (.bool (isLe (bt s p))) ∧ w' = w := fun p h w => by
    have := isletter_any (bt s p) (bt_lt s p) w
    rw [bt_at s p h] at this ⊢
    exact this
  have cdi : ∀ (p : Nat) (h : p < s.size) (w : World), Calls Tryd.prog 25 #[.int .u8 ((s[p]'h).toNat : Nat)] w fun e w' => e = .returned (.bool (isDi (bt s p))) ∧ w' = w := fun p h w => by
    have := isdigit_any (bt s p) (bt_lt s p) w
    rw [bt_at s p h] at this ⊢
    exact this
  have cdb : ∀ (p : Nat) (w : World), Calls Tryd.prog 25 #[.int .u8 (bt s p : Nat)] w fun e w' => e = .returned (.bool (isDi (bt s p))) ∧ w' = w := fun p w => isdigit_any (bt s p) (bt_lt s p) w
  have cwo : ∀ (p : Nat) (w : World), Calls Tryd.prog 26 #[.int .u8 (bt s p : Nat)] w fun e w' => e = .returned (.bool (isWo (bt s p))) ∧ w' = w := fun p w => isinword_any (bt s p) (bt_lt s p) w
  go_enter Tryd.func18, Tryd.ntmps18
  go_wp2
  show Code.wp Tryd.prog (Code.scope _) (bodyPost Tryd.prog Tryd.f18 _) _ _
  refine scope_five (x0 := ?x0) (x1 := ?x1) (x2 := ?x2) (x3 := ?x3) (x4 := ?x4) (CuJ s at0 w0) ?hJ ?h0 ?h1 ?h2 ?h3 ?h4 ?p0 ?p1 ?p2 ?p3 ?p4 ?first
  case h0 => rfl
  case h1 => rfl
  case h2 => rfl
  case h3 => rfl
  case h4 => rfl
  case hJ =>
    rintro l m a w' ⟨_, st, en, kd, bo, _, h⟩
    match l with
    | 0 => omega
    | 1 => omega
    | 2 => omega
    | 3 => omega
    | 4 => omega
    | _ + 5 => exact h.elim
  case p0 =>
    intro m a w' hJ
    obtain ⟨⟨hbl, hT, hwd⟩, st, en, kd, bo, u, rfl, h⟩ := cuJ_open hJ
    clear hJ
    simp only [cuF]
    have hlt := hw.lt
    obtain ⟨⟨s1, s2⟩, ⟨s3, s4⟩, ⟨s5, s6⟩, s7⟩ := tok_store w' w0.heap.size _ _ _ (.int .i64 0) (.string ⟨#[]⟩) (.int .i64 (st : Nat)) hT
    obtain ⟨b1, b2⟩ := tok_below w0 w' (.int .i64 0) (.string ⟨#[]⟩) (.int .i64 (st : Nat)) hbl hwd hlt
    go_wp2
    rw [jumps_ret]
    refine bodyPost_ret (v := .tuple #[.agg #[.int .i64 0, .string ⟨#[]⟩, .int .i64 (st : Nat)], .bool false]) ?_ rfl ⟨b1, b2, Or.inr ⟨st, rfl, h.1⟩⟩
    rw [results_cell_tmp rfl]
    have l0 := cell_of_row _ w0.heap.size 0 _ 48 (0, 0) s7
    have l1 := cell_of_row _ w0.heap.size 1 _ 48 (0, 0) s7
    have l2 := cell_of_row _ w0.heap.size 2 _ 48 (0, 0) s7
    go_simp
  case p1 =>
    intro m a w' hJ
    obtain ⟨⟨hbl, hT, hwd⟩, st, en, kd, bo, u, rfl, h⟩ := cuJ_open hJ
    clear hJ
    simp only [cuF]
    obtain ⟨h, hm⟩ := h
    have h1 := h.2.1
    have h2 := h.2.2.1
    have hlt := hw.lt
    obtain ⟨⟨s1, s2⟩, ⟨s3, s4⟩, ⟨s5, s6⟩, s7⟩ := tok_store w' w0.heap.size _ _ _ (.int .i64 (kd : Nat)) (.string (s.extract st en)) (.int .i64 (st : Nat)) hT
    obtain ⟨b1, b2⟩ := tok_below w0 w' (.int .i64 (kd : Nat)) (.string (s.extract st en)) (.int .i64 (st : Nat)) hbl hwd hlt
    go_wp2
    rw [jumps_ret]
    refine bodyPost_ret (v := .tuple #[.agg #[.int .i64 (kd : Nat), .string (s.extract st en), .int .i64 (st : Nat)], .bool true]) ?_ rfl ⟨b1, b2, Or.inl ⟨kd, st, en, rfl, h⟩⟩
    rw [results_cell_tmp rfl]
    have l0 := cell_of_row _ w0.heap.size 0 _ 48 (0, 0) s7
    have l1 := cell_of_row _ w0.heap.size 1 _ 48 (0, 0) s7
    have l2 := cell_of_row _ w0.heap.size 2 _ 48 (0, 0) s7
    go_simp
  case p2 =>
    intro m a w' hJ
    obtain ⟨hW, st, en, kd, bo, u, rfl, h⟩ := cuJ_open hJ
    clear hJ
    simp only [cuF]
    have H := hide h
    have HW := hide hW
    have h2 : st ≤ en := h.2.2.1
    have h3 : en ≤ s.size := h.2.2.2.1
    clear h hW csk cle cdi cdb hw hat
    go_wp2_with (first | (go_at_call 27; refine (cpk en h3 _).mono ?_; rintro e w' ⟨rfl, rfl⟩) | (go_at_call 26; refine (cwo en _).mono ?_; rintro e w' ⟨rfl, rfl⟩))
    · rename_i g
      obtain ⟨c, hl, _, _, hr, hm⟩ := H.out
      have hn : en < s.size := by
        by_cases x : en < s.size
        · exact x
        · rw [bt_z s en (by omega)] at g; cases g
      refine wp_goto ?_
      show ∃ m', m' < m ∧ CuJ s at0 w0 2 m' _ _
      refine ⟨1 + (s.size - (en + 1)), by omega, HW.out, st, en + 1, kd, bo, rfl, c, hl, by omega, by omega, ?_, rfl⟩
      rw [hr, runE_succ hn (by simpa using g)]
    · have g0 : isWo (bt s en) = false := by assumption
      have g : 16 < (en : Int) - (st : Int) := by assumption
      obtain ⟨c, hl, _, _, hr, hm⟩ := H.out
      have hx := lexA_word (bt_z s) c.2.1 c.2.2.1 hl (hr.trans (runE_stop (Or.inr g0)))
      rw [if_pos (by omega)] at hx
      refine wp_goto ?_
      show ∃ m', m' < m ∧ CuJ s at0 w0 0 m' _ _
      exact ⟨0, by omega, HW.out, st, en, kd, bo, rfl, c.2.2.2.trans hx, rfl⟩
    · have g0 : isWo (bt s en) = false := by assumption
      have g : (en : Int) - (st : Int) ≤ 16 := by assumption
      obtain ⟨c, hl, _, _, hr, hm⟩ := H.out
      have hx := lexA_word (bt_z s) c.2.1 c.2.2.1 hl (hr.trans (runE_stop (Or.inr g0)))
      rw [if_neg (by omega)] at hx
      have hne : st < en := by
        by_cases x : st = en
        · rw [x] at hl; rw [isLe_wo hl] at g0; cases g0
        · omega
      refine wp_goto ?_
      show ∃ m', m' < m ∧ CuJ s at0 w0 1 m' _ _
      exact ⟨0, by omega, HW.out, st, en, 1, bo, rfl, ⟨c.1, h2, h3, Or.inr ⟨by omega, by omega, hne, c.2.2.2.trans hx⟩⟩, rfl⟩
  case p3 =>
    intro m a w' hJ
    obtain ⟨hW, st, en, kd, bo, u, rfl, h⟩ := cuJ_open hJ
    clear hJ
    simp only [cuF]
    have H := hide h
    have HW := hide hW
    have h2 : st ≤ en := h.2.2.2.1
    have h3 : en ≤ s.size := h.2.2.2.2.1
    have HN : isDi (bt s en) = false → st < en ∧ runE (fun j => isDi (bt s j)) (s.size - st) st = en := fun g => by
      refine ⟨?_, h.2.2.2.2.2.1.trans (runE_stop (Or.inr g))⟩
      by_cases x : st = en
      · have := h.2.2.1; rw [x, g] at this; cases this
      · omega
    have cnm : isDi (bt s en) = false → Calls Tryd.prog 28 #[.string (s.extract st en)] w' fun e w'' => e = .returned (.bool (numOk (bt s) st en)) ∧ Below w'.heap.size w' w'' := fun g => by
      obtain ⟨n1, n2⟩ := HN g
      refine isnumber_ext s st en hs n1 h3 (fun j j1 j2 => ?_) w' hW.2.2
      exact runE_all (fun j => isDi (bt s j)) (s.size - st) st j j1 (by rw [n2]; exact j2)
    have HNH := hide HN
    clear h hW csk cle cdi hw hat HN
    go_wp2_with (first | (go_at_call 27; refine (cpk en h3 _).mono ?_; rintro e w' ⟨rfl, rfl⟩) | (go_at_call 25; refine (cdb en _).mono ?_; rintro e w' ⟨rfl, rfl⟩) | (go_at_call 26; refine (cwo en _).mono ?_; rintro e w' ⟨rfl, rfl⟩) | (go_at_call 28; refine (cnm (by assumption)).mono ?_; rintro e w'' ⟨rfl, hb⟩))
    · rename_i g
      obtain ⟨c, hl, hd, _, _, hr, hm⟩ := H.out
      have hn : en < s.size := by
        by_cases x : en < s.size
        · exact x
        · rw [bt_z s en (by omega)] at g; cases g
      refine wp_goto ?_
      show ∃ m', m' < m ∧ CuJ s at0 w0 3 m' _ _
      refine ⟨1 + (s.size - (en + 1)), by omega, HW.out, st, en + 1, kd, bo, rfl, c, hl, hd, by omega, by omega, ?_, rfl⟩
      rw [hr, runE_succ hn (by simpa using g)]
    · have g0 : isDi (bt s en) = false := by assumption
      have g : (!numOk (bt s) st en) = true := by assumption
      have hb : Below w'.heap.size w' w'' := by assumption
      obtain ⟨c, hl, hd, _, _, hr, hm⟩ := H.out
      have hx := lexA_num (bt_z s) c.2.1 c.2.2.1 hl hd (HNH.out g0).2
      rw [if_neg (by simpa using g)] at hx
      refine wp_goto ?_
      show ∃ m', m' < m ∧ CuJ s at0 w0 0 m' _ _
      exact ⟨0, by omega, cuW_more HW.out hb, st, en, kd, bo, rfl, c.2.2.2.trans hx, rfl⟩
    · have g0 : isDi (bt s en) = false := by assumption
      have g : (!numOk (bt s) st en) = false := by assumption
      have g1 : isWo (bt s en) = true := by assumption
      obtain ⟨c, hl, hd, _, _, hr, hm⟩ := H.out
      have hx := lexA_num (bt_z s) c.2.1 c.2.2.1 hl hd (HNH.out g0).2
      rw [if_pos (by simpa using g), if_pos g1] at hx
      refine wp_goto ?_
      show ∃ m', m' < m ∧ CuJ s at0 w0 0 m' _ _
      exact ⟨0, by omega, cuW_more HW.out (by assumption), en, en, kd, bo, rfl, c.2.2.2.trans hx, rfl⟩
    · have g0 : isDi (bt s en) = false := by assumption
      have g : (!numOk (bt s) st en) = false := by assumption
      have g1 : isWo (bt s en) = false := by assumption
      obtain ⟨c, hl, hd, _, _, hr, hm⟩ := H.out
      have hx := lexA_num (bt_z s) c.2.1 c.2.2.1 hl hd (HNH.out g0).2
      rw [if_pos (by simpa using g), if_neg (by simp [g1])] at hx
      refine wp_goto ?_
      show ∃ m', m' < m ∧ CuJ s at0 w0 1 m' _ _
      exact ⟨0, by omega, cuW_more HW.out (by assumption), st, en, 2, bo, rfl, ⟨c.1, h2, h3, Or.inr ⟨by omega, by omega, (HNH.out g0).1, c.2.2.2.trans hx⟩⟩, rfl⟩
  case p4 =>
    intro m a w' hJ
    obtain ⟨hW, st, en, kd, bo, u, rfl, h⟩ := cuJ_open hJ
    clear hJ
    simp only [cuF]
    have H := hide h
    have HW := hide hW
    have h2 : st < s.size := h.1.2.1
    obtain rfl : en = st := h.2.2.2.1
    have csg := signsize_any s en h2 hs
    have hft := sgn_fit (bt_z s) h2
    have HL := hide (lexA_sign (bt_z s) h2 h.1.2.2.1 h.2.1 h.2.2.1)
    generalize sgn (bt s en) (bt s (en + 1)) = sg at csg hft HL
    have hlt := hw.lt
    have hT := hW.2.1
    have HT := hide hT
    have HB := hide hW.1
    have HD := hide hW.2.2
    clear h hW csk cle cdi cdb cwo cpk hw hat hT
    go_wp2_with (go_at_call 29; refine (csg _).mono ?_; rintro e w' ⟨rfl, rfl⟩)
    · rename_i g
      obtain ⟨c, hl, hd, _, hm⟩ := H.out
      have hx := HL.out
      have : sg = 0 := by simp only [beq_iff_eq] at g; omega
      rw [if_pos this] at hx
      refine wp_goto ?_
      show ∃ m', m' < m ∧ CuJ s at0 w0 0 m' _ _
      exact ⟨0, by omega, HW.out, en, en + sg, kd, bo, rfl, c.2.2.2.trans hx, rfl⟩
    · have g : ((en : Int) + (sg : Int) == (en : Int)) = false := by assumption
      obtain ⟨c, hl, hd, hq, hm⟩ := H.out
      have hx := HL.out
      have hne : sg ≠ 0 := by simp only [beq_eq_false_iff_ne, ne_eq] at g; omega
      rw [if_neg hne] at hx
      rename_i K hK
      refine wp_label ?_
      refine hK _ _ ?_
      have hcd : CuD s at0 3 en (en + sg) := ⟨c.1, by omega, hft, Or.inr ⟨by omega, by omega, by omega, c.2.2.2.trans hx⟩⟩
      have ecast : (en : Int) + (sg : Int) = ((en + sg : Nat) : Int) := by omega
      rw [ecast]
      have hes : en ≤ en + sg := Nat.le_add_right _ _
      generalize en + sg = ee at hcd hes hft
      have HC := hide hcd
      obtain ⟨⟨s1, s2⟩, ⟨s3, s4⟩, ⟨s5, s6⟩, s7⟩ := tok_store w' w0.heap.size _ _ _ (.int .i64 3) (.string (s.extract en ee)) (.int .i64 (en : Nat)) HT.out
      obtain ⟨b1, b2⟩ := tok_below w0 w' (.int .i64 3) (.string (s.extract en ee)) (.int .i64 (en : Nat)) HB.out HD.out hlt
      clear hcd hx hK ecast hl hd c H HL HW HB HD HT g
      go_wp2
      rw [jumps_ret]
      refine bodyPost_ret (v := .tuple #[.agg #[.int .i64 (3 : Nat), .string (s.extract en ee), .int .i64 (en : Nat)], .bool true]) ?_ rfl ⟨b1, b2, Or.inl ⟨3, en, ee, rfl, HC.out⟩⟩
      rw [results_cell_tmp rfl]
      have l0 := cell_of_row _ w0.heap.size 0 _ 48 (0, 0) s7
      have l1 := cell_of_row _ w0.heap.size 1 _ 48 (0, 0) s7
      have l2 := cell_of_row _ w0.heap.size 2 _ 48 (0, 0) s7
      go_simp
  case first =>
    have HW := hide (cuW_alloc w0 hw)
    go_wp2_with (first | (go_at_call 23; refine (csk _).mono ?_; rintro e w' ⟨rfl, ⟨p, rfl, k1, k2, k3, k4⟩ | ⟨p, rfl, k1⟩⟩) | (go_at_call 24; refine (cle _ (by assumption) _).mono ?_; rintro e w' ⟨rfl, rfl⟩) | (go_at_call 25; refine (cdi _ (by assumption) _).mono ?_; rintro e w' ⟨rfl, rfl⟩))
    · rename_i g
      simp only [beq_iff_eq] at g
      have g' : p = s.size := by omega
      refine wp_goto ?_
      show ∃ m', CuJ s at0 w0 1 m' _ _
      exact ⟨0, HW.out, p, p, 0, true, rfl, ⟨k1, Nat.le_refl _, k2, Or.inl ⟨rfl, g', g', by rw [k4, g']; exact lexA_fin (bt_z s)⟩⟩, rfl⟩
    · have hp : p < s.size := by assumption
      have g : isLe (bt s p) = true := by assumption
      refine wp_goto ?_
      show ∃ m', CuJ s at0 w0 2 m' _ _
      exact ⟨_, HW.out, p, p, 0, true, rfl, ⟨k1, hp, k3, k4⟩, g, Nat.le_refl _, k2, rfl, rfl⟩
    · have hp : p < s.size := by assumption
      have g : isLe (bt s p) = false := by assumption
      have g' : isDi (bt s p) = true := by assumption
      refine wp_goto ?_
      show ∃ m', CuJ s at0 w0 3 m' _ _
      exact ⟨_, HW.out, p, p, 0, true, rfl, ⟨k1, hp, k3, k4⟩, g, g', Nat.le_refl _, k2, rfl, rfl⟩
    · have hp : p < s.size := by assumption
      have g : isLe (bt s p) = false := by assumption
      have g' : isDi (bt s p) = false := by assumption
      refine wp_goto ?_
      show ∃ m', CuJ s at0 w0 4 m' _ _
      exact ⟨_, HW.out, p, p, 0, true, rfl, ⟨k1, hp, k3, k4⟩, g, g', rfl, rfl⟩
    · have g : ((p : Int) == (s.size : Int)) = false := by assumption
      have g' : ¬ p < s.size := by assumption
      simp only [beq_eq_false_iff_ne, ne_eq] at g
      omega
    · refine wp_goto ?_
      show ∃ m', CuJ s at0 w0 0 m' _ _
      exact ⟨0, HW.out, p, p, 0, false, rfl, k1, rfl⟩
end Go.Proofs.YtaaiogfbohndaaaDoor
