import Derived.Test.YtmfoehaeejhlpaaGreatDoorGaAV
import Derived.Deep.RegionWith
/-
  cut: one token.
-/
namespace Go.Proofs.YtmfoehaeejhlpaaGreatDoor.Le
open Go.RowKit
set_option maxRecDepth 1000000

/-- What cut found. -/
def CuD (s : ByteArray) (at0 kd st en : Nat) : Prop := at0 ≤ st ∧ st ≤ en ∧ en ≤ s.size ∧
  ((kd = 0 ∧ st = s.size ∧ en = s.size ∧ lexA (bt s) s.size at0 = .ok [⟨0, s.size, s.size⟩]) ∨ (1 ≤ kd ∧ kd ≤ 3 ∧ st < en ∧ lexA (bt s) s.size at0 = Rs.cons ⟨kd, st, en⟩ (lexA (bt s) s.size en)))
/-- A place at which a token may begin. -/
def CuB (s : ByteArray) (at0 st : Nat) : Prop := at0 ≤ st ∧ st < s.size ∧ Stl (bt s) st ∧ lexA (bt s) s.size at0 = lexA (bt s) s.size st
def CuI (s : ByteArray) (at0 l m st en kd : Nat) : Prop := match l with
  | 0 => lexA (bt s) s.size at0 = .no st ∧ m = 0
  | 1 => CuD s at0 kd st en ∧ m = 0
  | 2 => CuB s at0 st ∧ isLe (bt s st) = true ∧ st ≤ en ∧ en ≤ s.size ∧ runE (fun j => isWo (bt s j)) (s.size - st) st = runE (fun j => isWo (bt s j)) (s.size - en) en ∧ m = 1 + (s.size - en)
  | 3 => CuB s at0 st ∧ isLe (bt s st) = false ∧ isDi (bt s st) = true ∧ st ≤ en ∧ en ≤ s.size ∧ runE (fun j => isDi (bt s j)) (s.size - st) st = runE (fun j => isDi (bt s j)) (s.size - en) en ∧ m = 1 + (s.size - en)
  | 4 => CuB s at0 st ∧ isLe (bt s st) = false ∧ isDi (bt s st) = false ∧ en = st ∧ m = 1
  | _ => False
/-- The world in between: one cell for the token. -/
def CuW (w0 w : World) : Prop := Below w0.heap.size w0 w ∧ w.heap[w0.heap.size]? = some (.cells #[.int .i64 0, .string ByteArray.empty, .int .i64 0] 73 (0, 0)) ∧ Wd w
def cuF (s : ByteArray) (at0 T st en kd : Nat) (bo : Bool) (u : Nat → Value) : Act := { tmps := #[.string s, .int .i64 (at0 : Nat), undef, undef, .pointer (some ⟨T, 0, none⟩), .bool bo, .int .i64 (st : Nat), .int .i64 (en : Nat), .int .i64 (kd : Nat), u 9, u 10, u 11, u 12, u 13, u 14, u 15, u 16, u 17, u 18, u 19, u 20, u 21, u 22, u 23, u 24, u 25, u 26, u 27, u 28, u 29, u 30, u 31, u 32, u 33, u 34, u 35, u 36, u 37, u 38, u 39, u 40, u 41, u 42, u 43, u 44, u 45, u 46, u 47, u 48, u 49, u 50, u 51, u 52, u 53, u 54, u 55, u 56, u 57, u 58, u 59, u 60, u 61, u 62, u 63, u 64, u 65, u 66, u 67, u 68, u 69, u 70, u 71, u 72, u 73, u 74, u 75, u 76, u 77, u 78], defers := [] }
def CuJ (s : ByteArray) (at0 : Nat) (w0 : World) (l m : Nat) (a : Act) (w : World) : Prop := CuW w0 w ∧ ∃ (st en kd : Nat) (bo : Bool), a = cuF s at0 w0.heap.size st en kd bo (fun k => a.tmps.getD k undef) ∧ CuI s at0 l m st en kd
theorem cuJ_open {s : ByteArray} {at0 : Nat} {w0 : World} {l m : Nat} {a : Act} {w : World} (h : CuJ s at0 w0 l m a w) :
    CuW w0 w ∧ ∃ (st en kd : Nat) (bo : Bool) (u : Nat → Value), a = cuF s at0 w0.heap.size st en kd bo u ∧ CuI s at0 l m st en kd := by
  obtain ⟨h1, st, en, kd, bo, h2, h3⟩ := h
  exact ⟨h1, st, en, kd, bo, _, h2, h3⟩

theorem tok_store (w : World) (T : Nat) (x0 x1 x2 a b c : Value) (h : w.heap[T]? = some (.cells #[x0, x1, x2] 73 (0, 0))) :
    (w.cell? ⟨T, 0, none⟩ = some x0 ∧ w.frozen? ⟨T, 0, none⟩ = false) ∧
    ((w.setCell ⟨T, 0, none⟩ a).cell? ⟨T, 1, none⟩ = some x1 ∧ (w.setCell ⟨T, 0, none⟩ a).frozen? ⟨T, 1, none⟩ = false) ∧
    (((w.setCell ⟨T, 0, none⟩ a).setCell ⟨T, 1, none⟩ b).cell? ⟨T, 2, none⟩ = some x2 ∧ ((w.setCell ⟨T, 0, none⟩ a).setCell ⟨T, 1, none⟩ b).frozen? ⟨T, 2, none⟩ = false) ∧
    (((w.setCell ⟨T, 0, none⟩ a).setCell ⟨T, 1, none⟩ b).setCell ⟨T, 2, none⟩ c).heap[T]? = some (.cells #[a, b, c] 73 (0, 0)) := by
  have q0 := heap_setCell_same w T 0 _ 73 a h
  have q1 := heap_setCell_same _ T 1 _ 73 b q0
  have q2 := heap_setCell_same _ T 2 _ 73 c q1
  exact ⟨⟨by rw [cell_of_row w T _ _ 73 (0, 0) h]; rfl, frozen_of_row w T 0 _ 73 h⟩, ⟨by rw [cell_of_row _ T _ _ 73 (0, 0) q0]; rfl, frozen_of_row _ T 1 _ 73 q0⟩, ⟨by rw [cell_of_row _ T _ _ 73 (0, 0) q1]; rfl, frozen_of_row _ T 2 _ 73 q1⟩, q2⟩
theorem tok_below (w0 w : World) (a b c : Value) (h : Below w0.heap.size w0 w) (hw : Wd w) (h0 : 3 < w0.heap.size) :
    Below w0.heap.size w0 (((w.setCell ⟨w0.heap.size, 0, none⟩ a).setCell ⟨w0.heap.size, 1, none⟩ b).setCell ⟨w0.heap.size, 2, none⟩ c) ∧ Wd (((w.setCell ⟨w0.heap.size, 0, none⟩ a).setCell ⟨w0.heap.size, 1, none⟩ b).setCell ⟨w0.heap.size, 2, none⟩ c) := by
  have hb : ∀ (w : World) (k : Nat) (v : Value), Below w0.heap.size w0 w → Below w0.heap.size w0 (w.setCell ⟨w0.heap.size, k, none⟩ v) := fun w k v h => h.setCell (p := ⟨w0.heap.size, k, none⟩) (Nat.le_refl _) v
  have h3 := hb _ 2 c (hb _ 1 b (hb _ 0 a h))
  refine ⟨h3, ?_⟩
  obtain ⟨ev, e1, e2⟩ := hw
  refine ⟨ev, ?_, e2⟩
  rw [← e1, h3.cell h0, h.cell h0]

theorem cuW_alloc (w0 : World) (hw : Wd w0) : CuW w0 (w0.alloc (.cells #[.int .i64 0, .string ByteArray.empty, .int .i64 0] 73)) := by
  have hb : Below w0.heap.size w0 (w0.alloc (.cells #[.int .i64 0, .string ByteArray.empty, .int .i64 0] 73)) := (Below.refl _ w0).alloc (Nat.le_refl _) _
  refine ⟨hb, ?_, hw.below hw.lt hb⟩
  exact Array.getElem?_push_size
theorem cuW_more {w0 w w' : World} (h : CuW w0 w) (hb : Below w.heap.size w w') : CuW w0 w' := by
  obtain ⟨h1, h2, h3⟩ := h
  have hlt : w0.heap.size < w.heap.size := (Array.getElem?_eq_some_iff.1 h2).1
  exact ⟨h1.trans (hb.mono (by omega)), (hb.block _ hlt).trans h2, h3.below h3.lt hb⟩
theorem isnumber_ext (s : ByteArray) (st en : Nat) (hs : s.size ≤ 8000) (h1 : st < en) (h2 : en ≤ s.size) (hd : ∀ j, st ≤ j → j < en → isDi (bt s j) = true) (w : World) (hw : Wd w) :
    Calls Tryz.prog 73 #[.string (s.extract st en)] w fun e w' => e = .returned (.bool (numOk (bt s) st en)) ∧ Below w.heap.size w w' := by
  have hz : (s.extract st en).size = en - st := by rw [ByteArray.size_extract]; omega
  have hdg : Dig (s.extract st en).data.toList := by
    intro c hc
    obtain ⟨i, hi, rfl⟩ := List.mem_iff_getElem.1 hc
    have hi' : i < (s.extract st en).size := by rw [Array.length_toList] at hi; exact hi
    have e1 := bt_ext s st en i h2
    rw [if_pos (by omega)] at e1
    have e2 := hd (st + i) (by omega) (by omega)
    rw [← e1] at e2
    unfold bt at e2
    rw [List.getD_eq_getElem?_getD, List.getElem?_eq_getElem hi] at e2
    exact e2
  have c := isnumber_any (s.extract st en) (by omega) (by omega) hdg w hw
  have e : (((s.extract st en).size == 1 || bt (s.extract st en) 0 != 48) && decide (valL 0 (s.extract st en).data.toList < 9223372036854775808)) = numOk (bt s) st en := by
    unfold numOk
    rw [hz, bt_ext s st en 0 h2, if_pos (by omega), numV_val s (en - st) st 0 (by omega), ext_data]
    have : (en - st == 1) = (en == st + 1) := by
      rw [Bool.eq_iff_iff]; simp; omega
    rw [this]
    rfl
  rw [e] at c
  exact c

set_option maxHeartbeats 8000000 in
theorem cut_any (s : ByteArray) (at0 : Nat) (hat : at0 ≤ s.size) (hs : s.size ≤ 8000) (w0 : World) (hw : Wd w0) :
    Calls Tryz.prog 41 #[.string s, .int .i64 at0] w0 fun e w' => Below w0.heap.size w0 w' ∧ Wd w' ∧
      ((∃ kd st en : Nat, e = .returned (.tuple #[.agg #[.int .i64 kd, .string (s.extract st en), .int .i64 st], .bool true]) ∧ CuD s at0 kd st en) ∨
      (∃ st : Nat, e = .returned (.tuple #[.agg #[.int .i64 0, .string ByteArray.empty, .int .i64 st], .bool false]) ∧ lexA (bt s) s.size at0 = .no st)) := by
  have csk := skip_any s at0 hat hs
  have cpk := peek_any s
  have cle : ∀ (p : Nat) (h : p < s.size) (w : World), Calls Tryz.prog 69 #[.int .u8 ((s[p]'h).toNat : Nat)] w fun e w' => e = .returned (.bool (isLe (bt s p))) ∧ w' = w := fun p h w => by
    have := isletter_any (bt s p) (bt_lt s p) w
    rw [bt_at s p h] at this ⊢
    exact this
  have cdi : ∀ (p : Nat) (h : p < s.size) (w : World), Calls Tryz.prog 70 #[.int .u8 ((s[p]'h).toNat : Nat)] w fun e w' => e = .returned (.bool (isDi (bt s p))) ∧ w' = w := fun p h w => by
    have := isdigit_any (bt s p) (bt_lt s p) w
    rw [bt_at s p h] at this ⊢
    exact this
  have cdb : ∀ (p : Nat) (w : World), Calls Tryz.prog 70 #[.int .u8 (bt s p : Nat)] w fun e w' => e = .returned (.bool (isDi (bt s p))) ∧ w' = w := fun p w => isdigit_any (bt s p) (bt_lt s p) w
  have cwo : ∀ (p : Nat) (w : World), Calls Tryz.prog 71 #[.int .u8 (bt s p : Nat)] w fun e w' => e = .returned (.bool (isWo (bt s p))) ∧ w' = w := fun p w => isinword_any (bt s p) (bt_lt s p) w
  go_enter Tryz.func41, Tryz.ntmps41
  go_wp2
  show Code.wp Tryz.prog (Code.scope _) (bodyPost Tryz.prog Tryz.f41 _) _ _
  refine scope_five (x0 := ?x0) (x1 := ?x1) (x2 := ?x2) (x3 := ?x3) (x4 := ?x4) (CuJ s at0 w0) ?hJ ?h0 ?h1 ?h2 ?h3 ?h4 ?p0 ?p1 ?p2 ?p3 ?p4 ?first
  case h0 => rfl
  case h1 => rfl
  case h2 => rfl
  case h3 => rfl
  case h4 => rfl
  case hJ =>
    rintro l m a w' ⟨_, st, en, kd, bo, _, h⟩
    match l with
    | 0 => omega
    | 1 => omega
    | 2 => omega
    | 3 => omega
    | 4 => omega
    | _ + 5 => exact h.elim
  case p0 =>
    intro m a w' hJ
    obtain ⟨⟨hbl, hT, hwd⟩, st, en, kd, bo, u, rfl, h⟩ := cuJ_open hJ
    clear hJ
    simp only [cuF]
    have hlt := hw.lt
    obtain ⟨⟨s1, s2⟩, ⟨s3, s4⟩, ⟨s5, s6⟩, s7⟩ := tok_store w' w0.heap.size _ _ _ (.int .i64 0) (.string ⟨#[]⟩) (.int .i64 (st : Nat)) hT
    obtain ⟨b1, b2⟩ := tok_below w0 w' (.int .i64 0) (.string ⟨#[]⟩) (.int .i64 (st : Nat)) hbl hwd hlt
    go_wp2
    rw [jumps_ret]
    refine bodyPost_ret (v := .tuple #[.agg #[.int .i64 0, .string ⟨#[]⟩, .int .i64 (st : Nat)], .bool false]) ?_ rfl ⟨b1, b2, Or.inr ⟨st, rfl, h.1⟩⟩
    rw [results_cell_tmp rfl]
    have l0 := cell_of_row _ w0.heap.size 0 _ 73 (0, 0) s7
    have l1 := cell_of_row _ w0.heap.size 1 _ 73 (0, 0) s7
    have l2 := cell_of_row _ w0.heap.size 2 _ 73 (0, 0) s7
    go_simp
  case p1 =>
    intro m a w' hJ
    obtain ⟨⟨hbl, hT, hwd⟩, st, en, kd, bo, u, rfl, h⟩ := cuJ_open hJ
    clear hJ
    simp only [cuF]
    obtain ⟨h, hm⟩ := h
    have h1 := h.2.1
    have h2 := h.2.2.1
    have hlt := hw.lt
    obtain ⟨⟨s1, s2⟩, ⟨s3, s4⟩, ⟨s5, s6⟩, s7⟩ := tok_store w' w0.heap.size _ _ _ (.int .i64 (kd : Nat)) (.string (s.extract st en)) (.int .i64 (st : Nat)) hT
    obtain ⟨b1, b2⟩ := tok_below w0 w' (.int .i64 (kd : Nat)) (.string (s.extract st en)) (.int .i64 (st : Nat)) hbl hwd hlt
    go_wp2
    rw [jumps_ret]
    refine bodyPost_ret (v := .tuple #[.agg #[.int .i64 (kd : Nat), .string (s.extract st en), .int .i64 (st : Nat)], .bool true]) ?_ rfl ⟨b1, b2, Or.inl ⟨kd, st, en, rfl, h⟩⟩
    rw [results_cell_tmp rfl]
    have l0 := cell_of_row _ w0.heap.size 0 _ 73 (0, 0) s7
    have l1 := cell_of_row _ w0.heap.size 1 _ 73 (0, 0) s7
    have l2 := cell_of_row _ w0.heap.size 2 _ 73 (0, 0) s7
    go_simp
  case p2 =>
    intro m a w' hJ
    obtain ⟨hW, st, en, kd, bo, u, rfl, h⟩ := cuJ_open hJ
    clear hJ
    simp only [cuF]
    have H := hide h
    have HW := hide hW
    have h2 : st ≤ en := h.2.2.1
    have h3 : en ≤ s.size := h.2.2.2.1
    clear h hW csk cle cdi cdb hw hat
    go_wp2_with (first | (go_at_call 72; refine (cpk en h3 _).mono ?_; rintro e w' ⟨rfl, rfl⟩) | (go_at_call 71; refine (cwo en _).mono ?_; rintro e w' ⟨rfl, rfl⟩))
    · rename_i g
      obtain ⟨c, hl, _, _, hr, hm⟩ := H.out
      have hn : en < s.size := by
        by_cases x : en < s.size
        · exact x
        · rw [bt_z s en (by omega)] at g; cases g
      refine wp_goto ?_
      show ∃ m', m' < m ∧ CuJ s at0 w0 2 m' _ _
      refine ⟨1 + (s.size - (en + 1)), by omega, HW.out, st, en + 1, kd, bo, rfl, c, hl, by omega, by omega, ?_, rfl⟩
      rw [hr, runE_succ hn (by simpa using g)]
    · have g0 : isWo (bt s en) = false := by assumption
      have g : 16 < (en : Int) - (st : Int) := by assumption
      obtain ⟨c, hl, _, _, hr, hm⟩ := H.out
      have hx := lexA_word (bt_z s) c.2.1 c.2.2.1 hl (hr.trans (runE_stop (Or.inr g0)))
      rw [if_pos (by omega)] at hx
      refine wp_goto ?_
      show ∃ m', m' < m ∧ CuJ s at0 w0 0 m' _ _
      exact ⟨0, by omega, HW.out, st, en, kd, bo, rfl, c.2.2.2.trans hx, rfl⟩
    · have g0 : isWo (bt s en) = false := by assumption
      have g : (en : Int) - (st : Int) ≤ 16 := by assumption
      obtain ⟨c, hl, _, _, hr, hm⟩ := H.out
      have hx := lexA_word (bt_z s) c.2.1 c.2.2.1 hl (hr.trans (runE_stop (Or.inr g0)))
      rw [if_neg (by omega)] at hx
      have hne : st < en := by
        by_cases x : st = en
        · rw [x] at hl; rw [isLe_wo hl] at g0; cases g0
        · omega
      refine wp_goto ?_
      show ∃ m', m' < m ∧ CuJ s at0 w0 1 m' _ _
      exact ⟨0, by omega, HW.out, st, en, 1, bo, rfl, ⟨c.1, h2, h3, Or.inr ⟨by omega, by omega, hne, c.2.2.2.trans hx⟩⟩, rfl⟩
  case p3 =>
    intro m a w' hJ
    obtain ⟨hW, st, en, kd, bo, u, rfl, h⟩ := cuJ_open hJ
    clear hJ
    simp only [cuF]
    have H := hide h
    have HW := hide hW
    have h2 : st ≤ en := h.2.2.2.1
    have h3 : en ≤ s.size := h.2.2.2.2.1
    have HN : isDi (bt s en) = false → st < en ∧ runE (fun j => isDi (bt s j)) (s.size - st) st = en := fun g => by
      refine ⟨?_, h.2.2.2.2.2.1.trans (runE_stop (Or.inr g))⟩
      by_cases x : st = en
      · have := h.2.2.1; rw [x, g] at this; cases this
      · omega
    have cnm : isDi (bt s en) = false → Calls Tryz.prog 73 #[.string (s.extract st en)] w' fun e w'' => e = .returned (.bool (numOk (bt s) st en)) ∧ Below w'.heap.size w' w'' := fun g => by
      obtain ⟨n1, n2⟩ := HN g
      refine isnumber_ext s st en hs n1 h3 (fun j j1 j2 => ?_) w' hW.2.2
      exact runE_all (fun j => isDi (bt s j)) (s.size - st) st j j1 (by rw [n2]; exact j2)
    have HNH := hide HN
    clear h hW csk cle cdi hw hat HN
    go_wp2_with (first | (go_at_call 72; refine (cpk en h3 _).mono ?_; rintro e w' ⟨rfl, rfl⟩) | (go_at_call 70; refine (cdb en _).mono ?_; rintro e w' ⟨rfl, rfl⟩) | (go_at_call 71; refine (cwo en _).mono ?_; rintro e w' ⟨rfl, rfl⟩) | (go_at_call 73; refine (cnm (by assumption)).mono ?_; rintro e w'' ⟨rfl, hb⟩))
    · rename_i g
      obtain ⟨c, hl, hd, _, _, hr, hm⟩ := H.out
      have hn : en < s.size := by
        by_cases x : en < s.size
        · exact x
        · rw [bt_z s en (by omega)] at g; cases g
      refine wp_goto ?_
      show ∃ m', m' < m ∧ CuJ s at0 w0 3 m' _ _
      refine ⟨1 + (s.size - (en + 1)), by omega, HW.out, st, en + 1, kd, bo, rfl, c, hl, hd, by omega, by omega, ?_, rfl⟩
      rw [hr, runE_succ hn (by simpa using g)]
    · have g0 : isDi (bt s en) = false := by assumption
      have g : (!numOk (bt s) st en) = true := by assumption
      have hb : Below w'.heap.size w' w'' := by assumption
      obtain ⟨c, hl, hd, _, _, hr, hm⟩ := H.out
      have hx := lexA_num (bt_z s) c.2.1 c.2.2.1 hl hd (HNH.out g0).2
      rw [if_neg (by simpa using g)] at hx
      refine wp_goto ?_
      show ∃ m', m' < m ∧ CuJ s at0 w0 0 m' _ _
      exact ⟨0, by omega, cuW_more HW.out hb, st, en, kd, bo, rfl, c.2.2.2.trans hx, rfl⟩
    · have g0 : isDi (bt s en) = false := by assumption
      have g : (!numOk (bt s) st en) = false := by assumption
      have g1 : isWo (bt s en) = true := by assumption
      obtain ⟨c, hl, hd, _, _, hr, hm⟩ := H.out
      have hx := lexA_num (bt_z s) c.2.1 c.2.2.1 hl hd (HNH.out g0).2
      rw [if_pos (by simpa using g), if_pos g1] at hx
      refine wp_goto ?_
      show ∃ m', m' < m ∧ CuJ s at0 w0 0 m' _ _
      exact ⟨0, by omega, cuW_more HW.out (by assumption), en, en, kd, bo, rfl, c.2.2.2.trans hx, rfl⟩
    · have g0 : isDi (bt s en) = false := by assumption
      have g : (!numOk (bt s) st en) = false := by assumption
      have g1 : isWo (bt s en) = false := by assumption
      obtain ⟨c, hl, hd, _, _, hr, hm⟩ := H.out
      have hx := lexA_num (bt_z s) c.2.1 c.2.2.1 hl hd (HNH.out g0).2
      rw [if_pos (by simpa using g), if_neg (by simp [g1])] at hx
      refine wp_goto ?_
      show ∃ m', m' < m ∧ CuJ s at0 w0 1 m' _ _
      exact ⟨0, by omega, cuW_more HW.out (by assumption), st, en, 2, bo, rfl, ⟨c.1, h2, h3, Or.inr ⟨by omega, by omega, (HNH.out g0).1, c.2.2.2.trans hx⟩⟩, rfl⟩
  case p4 =>
    intro m a w' hJ
    obtain ⟨hW, st, en, kd, bo, u, rfl, h⟩ := cuJ_open hJ
    clear hJ
    simp only [cuF]
    have H := hide h
    have HW := hide hW
    have h2 : st < s.size := h.1.2.1
    obtain rfl : en = st := h.2.2.2.1
    have csg := signsize_any s en h2 hs
    have hft := sgn_fit (bt_z s) h2
    have HL := hide (lexA_sign (bt_z s) h2 h.1.2.2.1 h.2.1 h.2.2.1)
    generalize sgn (bt s en) (bt s (en + 1)) = sg at csg hft HL
    have hlt := hw.lt
    have hT := hW.2.1
    have HT := hide hT
    have HB := hide hW.1
    have HD := hide hW.2.2
    clear h hW csk cle cdi cdb cwo cpk hw hat hT
    go_wp2_with (go_at_call 74; refine (csg _).mono ?_; rintro e w' ⟨rfl, rfl⟩)
    · rename_i g
      obtain ⟨c, hl, hd, _, hm⟩ := H.out
      have hx := HL.out
      have : sg = 0 := by simp only [beq_iff_eq] at g; omega
      rw [if_pos this] at hx
      refine wp_goto ?_
      show ∃ m', m' < m ∧ CuJ s at0 w0 0 m' _ _
      exact ⟨0, by omega, HW.out, en, en + sg, kd, bo, rfl, c.2.2.2.trans hx, rfl⟩
    · have g : ((en : Int) + (sg : Int) == (en : Int)) = false := by assumption
      obtain ⟨c, hl, hd, hq, hm⟩ := H.out
      have hx := HL.out
      have hne : sg ≠ 0 := by simp only [beq_eq_false_iff_ne, ne_eq] at g; omega
      rw [if_neg hne] at hx
      rename_i K hK
      refine wp_label ?_
      refine hK _ _ ?_
      have hcd : CuD s at0 3 en (en + sg) := ⟨c.1, by omega, hft, Or.inr ⟨by omega, by omega, by omega, c.2.2.2.trans hx⟩⟩
      have ecast : (en : Int) + (sg : Int) = ((en + sg : Nat) : Int) := by omega
      rw [ecast]
      have hes : en ≤ en + sg := Nat.le_add_right _ _
      generalize en + sg = ee at hcd hes hft
      have HC := hide hcd
      obtain ⟨⟨s1, s2⟩, ⟨s3, s4⟩, ⟨s5, s6⟩, s7⟩ := tok_store w' w0.heap.size _ _ _ (.int .i64 3) (.string (s.extract en ee)) (.int .i64 (en : Nat)) HT.out
      obtain ⟨b1, b2⟩ := tok_below w0 w' (.int .i64 3) (.string (s.extract en ee)) (.int .i64 (en : Nat)) HB.out HD.out hlt
      clear hcd hx hK ecast hl hd c H HL HW HB HD HT g
      go_wp2
      rw [jumps_ret]
      refine bodyPost_ret (v := .tuple #[.agg #[.int .i64 (3 : Nat), .string (s.extract en ee), .int .i64 (en : Nat)], .bool true]) ?_ rfl ⟨b1, b2, Or.inl ⟨3, en, ee, rfl, HC.out⟩⟩
      rw [results_cell_tmp rfl]
      have l0 := cell_of_row _ w0.heap.size 0 _ 73 (0, 0) s7
      have l1 := cell_of_row _ w0.heap.size 1 _ 73 (0, 0) s7
      have l2 := cell_of_row _ w0.heap.size 2 _ 73 (0, 0) s7
      go_simp
  case first =>
    have HW := hide (cuW_alloc w0 hw)
    go_wp2_with (first | (go_at_call 68; refine (csk _).mono ?_; rintro e w' ⟨rfl, ⟨p, rfl, k1, k2, k3, k4⟩ | ⟨p, rfl, k1⟩⟩) | (go_at_call 69; refine (cle _ (by assumption) _).mono ?_; rintro e w' ⟨rfl, rfl⟩) | (go_at_call 70; refine (cdi _ (by assumption) _).mono ?_; rintro e w' ⟨rfl, rfl⟩))
    · rename_i g
      simp only [beq_iff_eq] at g
      have g' : p = s.size := by omega
      refine wp_goto ?_
      show ∃ m', CuJ s at0 w0 1 m' _ _
      exact ⟨0, HW.out, p, p, 0, true, rfl, ⟨k1, Nat.le_refl _, k2, Or.inl ⟨rfl, g', g', by rw [k4, g']; exact lexA_fin (bt_z s)⟩⟩, rfl⟩
    · have hp : p < s.size := by assumption
      have g : isLe (bt s p) = true := by assumption
      refine wp_goto ?_
      show ∃ m', CuJ s at0 w0 2 m' _ _
      exact ⟨_, HW.out, p, p, 0, true, rfl, ⟨k1, hp, k3, k4⟩, g, Nat.le_refl _, k2, rfl, rfl⟩
    · have hp : p < s.size := by assumption
      have g : isLe (bt s p) = false := by assumption
      have g' : isDi (bt s p) = true := by assumption
      refine wp_goto ?_
      show ∃ m', CuJ s at0 w0 3 m' _ _
      exact ⟨_, HW.out, p, p, 0, true, rfl, ⟨k1, hp, k3, k4⟩, g, g', Nat.le_refl _, k2, rfl, rfl⟩
    · have hp : p < s.size := by assumption
      have g : isLe (bt s p) = false := by assumption
      have g' : isDi (bt s p) = false := by assumption
      refine wp_goto ?_
      show ∃ m', CuJ s at0 w0 4 m' _ _
      exact ⟨_, HW.out, p, p, 0, true, rfl, ⟨k1, hp, k3, k4⟩, g, g', rfl, rfl⟩
    · have g : ((p : Int) == (s.size : Int)) = false := by assumption
      have g' : ¬ p < s.size := by assumption
      simp only [beq_eq_false_iff_ne, ne_eq] at g
      omega
    · refine wp_goto ?_
      show ∃ m', CuJ s at0 w0 0 m' _ _
      exact ⟨0, HW.out, p, p, 0, false, rfl, k1, rfl⟩
end Go.Proofs.YtmfoehaeejhlpaaGreatDoor.Le

/-
  Lex: all tokens.
-/
namespace Go.Proofs.YtmfoehaeejhlpaaGreatDoor.Le
open Go.RowKit
set_option maxRecDepth 1000000

theorem loop_ghost {P : Program} {a : Act} {w : World} {Q : Exit → Act → World → Prop} {c : Code} (I : Nat → Act → World → Prop) (m0 : Nat) (h₀ : I m0 a w)
    (round : ∀ m a w, I m a w → c.wp P (Exit.then (fun a' w' => ∃ m', m' < m ∧ I m' a' w') Q) a w) : (Code.loop c).wp P Q a w := by
  intro b k cs
  have key : ∀ n a w, I n a w →
      ∃ e a' w', Q e a' w' ∧ Arrives P (lone (b.at a (.code c :: .inLoop c :: k)) cs w) b k cs e a' w' := by
    intro n
    induction n using Nat.strongRecOn with
    | _ n ih =>
      intro a w hI
      obtain ⟨e, a₁, w₁, hq, harr⟩ := round n a w hI b (.inLoop c :: k) cs
      cases e with
      | normal =>
        obtain ⟨m', hlt, hI₁⟩ := hq
        obtain ⟨e₂, a₂, w₂, hq₂, harr₂⟩ := ih m' hlt a₁ w₁ hI₁
        exact ⟨e₂, a₂, w₂, hq₂, .of_steps (Steps.trans harr (.one step_inLoop)) harr₂⟩
      | exit id => exact ⟨.exit id, a₁, w₁, hq, fun k' hk => harr k' (by simp [exitTo, hk])⟩
      | goto l => exact ⟨.goto l, a₁, w₁, hq, fun k' hk => harr k' (by simp [gotoIn, hk])⟩
      | ret => exact ⟨_, a₁, w₁, hq, harr⟩
      | panic ch => exact ⟨_, a₁, w₁, hq, harr⟩
      | outgrown => exact ⟨_, a₁, w₁, hq, harr⟩
  obtain ⟨e, a₁, w₁, hq, harr⟩ := key m0 a w h₀
  exact ⟨e, a₁, w₁, hq, .of_steps (.one step_loop) harr⟩

theorem info48 : (Tryz.prog.info? 73).map (fun i => (i.zero, i.size, i.bytes)) = some (some (.agg #[.int .i64 0, .string ByteArray.empty, .int .i64 0]), 3, 32) := by kernel_rfl
theorem info_parts {P : Program} {e : TypeId} {z : Value} {n b : Nat} (h : (P.info? e).map (fun i => (i.zero, i.size, i.bytes)) = some (some z, n, b)) :
    ∃ i, P.info? e = some i ∧ i.zero = some z ∧ i.size = n ∧ i.bytes = b := by
  cases hi : P.info? e with
  | none => rw [hi] at h; cases h
  | some i =>
    rw [hi] at h
    simp only [Option.map_some, Option.some.injEq, Prod.mk.injEq] at h
    exact ⟨i, rfl, h.1, h.2.1, h.2.2⟩

/-- Tokens as cells. -/
def tz (s : ByteArray) (l : List Tk) : List Value := l.flatMap fun t => [.int .i64 (t.k : Nat), .string (s.extract t.a t.e), .int .i64 (t.a : Nat)]
theorem tz_push (s : ByteArray) (l : List Tk) (t : Tk) : tz s (l ++ [t]) = tz s l ++ [.int .i64 (t.k : Nat), .string (s.extract t.a t.e), .int .i64 (t.a : Nat)] := by simp [tz]

/-- What Lex answers. -/
def LxR (s : ByteArray) (w w' : World) (e : Ending) : Prop :=
  (∃ (l : List Tk) (v : Value), s.size ≤ 8000 ∧ lexS s = .ok l ∧ l.length ≤ 8001 ∧ e = .returned (.tuple #[v, .nilIface]) ∧ w'.ownsRow w.heap.size 73 3 v l.length (tz s l)) ∨
  (∃ (at1 N er : Nat), ((s.size ≤ 8000 ∧ lexS s = .no at1 ∧ er = 90) ∨ (8000 < s.size ∧ at1 = 8000 ∧ er = 102)) ∧ e = .returned (.tuple #[.slice none 0 0, .iface 61 (.pointer (some ⟨N, 0, none⟩))]) ∧ w.heap.size ≤ N ∧
    w'.heap[N]? = some (.cells #[.int .i64 (at1 : Nat), .int .i64 (er : Nat)] 77 (0, 0)))

def lxF (s : ByteArray) (at1 : Nat) (v : Value) (u : Nat → Value) : Act := { tmps := #[.string s, undef, .slice none 0 0, .nilIface, v, .int .i64 (at1 : Nat), u 6, u 7, u 8, u 9, u 10, u 11, u 12, u 13, u 14, u 15, u 16, u 17, u 18, u 19, u 20, u 21, u 22, u 23, u 24, u 25, u 26, u 27, u 28, u 29, u 30, u 31, u 32, u 33, u 34, u 35, u 36, u 37, u 38, u 39, u 40], defers := [] }
def LxI (s : ByteArray) (w0 : World) (m : Nat) (a : Act) (w : World) : Prop := Below w0.heap.size w0 w ∧ Wd w ∧ ∃ (at1 : Nat) (v : Value) (l : List Tk), a = lxF s at1 v (fun k => a.tmps.getD k undef) ∧
  w.ownsRow w0.heap.size 73 3 v l.length (tz s l) ∧ at1 ≤ s.size ∧ l.length ≤ at1 ∧ lexS s = Rs.pre l (lexA (bt s) s.size at1) ∧ m = s.size - at1
theorem lxI_open {s : ByteArray} {w0 : World} {m : Nat} {a : Act} {w : World} (h : LxI s w0 m a w) : Below w0.heap.size w0 w ∧ Wd w ∧ ∃ (at1 : Nat) (v : Value) (l : List Tk) (u : Nat → Value), a = lxF s at1 v u ∧
  w.ownsRow w0.heap.size 73 3 v l.length (tz s l) ∧ at1 ≤ s.size ∧ l.length ≤ at1 ∧ lexS s = Rs.pre l (lexA (bt s) s.size at1) ∧ m = s.size - at1 := by
  obtain ⟨h1, h2, at1, v, l, h3, h4⟩ := h
  exact ⟨h1, h2, at1, v, l, _, h3, h4⟩

theorem grown_later {w w' : World} (h : Below w.heap.size w w') : w.grownBy w' none := ⟨h.os, h.tape, h.output, h.size, fun k hk _ => h.block k hk⟩
theorem own_later {w w' : World} {b e s n : Nat} {v : Value} {xs : List Value} (h : w.ownsRow b e s v n xs) (hb : Below w.heap.size w w') : w'.ownsRow b e s v n xs :=
  h.kept (grown_later hb) (by cases v.ownBlock <;> simp)
theorem lx_cells {w w1 w2 : World} {b n : Nat} {v : Value} {xs : List Value} (h : w.ownsRow b 73 3 v n xs) (hb : w.heap.size ≤ w1.heap.size) {x y z : Value} {o : Obj}
    (hg : ((w1.alloc (.cells #[x, y, z] 73)).alloc o).grownBy w2 v.ownBlock) : w2.cell? ⟨w1.heap.size, 0, none⟩ = some x ∧ w2.cell? ⟨w1.heap.size, 1, none⟩ = some y ∧ w2.cell? ⟨w1.heap.size, 2, none⟩ = some z := by
  have hne : some w1.heap.size ≠ v.ownBlock := fun e => by
    have := (h.lt _ e.symm).2
    omega
  have hh : ((w1.alloc (.cells #[x, y, z] 73)).alloc o).heap[w1.heap.size]? = some (.cells #[x, y, z] 73 (0, 0)) := by
    rw [Below.heap_alloc _ _ _ (by simp)]
    exact Array.getElem?_push_size
  refine ⟨hg.cell (by rw [cell_of_row _ _ _ _ 73 (0, 0) hh]; rfl) hne, hg.cell (by rw [cell_of_row _ _ _ _ 73 (0, 0) hh]; rfl) hne, hg.cell (by rw [cell_of_row _ _ _ _ 73 (0, 0) hh]; rfl) hne⟩
theorem lx_below {w0 w w1 w2 : World} {n : Nat} {v : Value} {xs : List Value} (h0 : Below w0.heap.size w0 w) (h : w.ownsRow w0.heap.size 73 3 v n xs) (hb : Below w.heap.size w w1) {o o' : Obj}
    (hg : ((w1.alloc o').alloc o).grownBy w2 v.ownBlock) (hw : Wd w0) : Below w0.heap.size w0 w2 ∧ Wd w2 := by
  have h1 : Below w0.heap.size w0 ((w1.alloc o').alloc o) := ((h0.trans (hb.mono h0.size)).alloc (Nat.le_trans h0.size hb.size) o').alloc (by have := h0.size; have := hb.size; simp; omega) o
  have h2 : Below w0.heap.size w0 w2 := h1.grown hg h1.size (fun k e => (h.lt k e).1)
  exact ⟨h2, hw.below hw.lt h2⟩

def Stop (p : Prop) : Prop := p
theorem stopHere {P : Program} {ops : Array Oper} {Q : Exit → Act → World → Prop} {l : List Oper} {a : Act} {w : World} (h : Stop (wpList P ops Q l a w)) : wpList P ops Q l a w := h
set_option maxHeartbeats 8000000 in
theorem lex_any (s : ByteArray) (w0 : World) (hw : Wd w0) : Calls Tryz.prog 22 #[.string s] w0 fun e w' => Below w0.heap.size w0 w' ∧ Wd w' ∧ LxR s w0 w' e := by
  by_cases hs : s.size ≤ 8000
  case neg =>
    have hs' : 8000 < s.size := by omega
    go_enter Tryz.func22, Tryz.ntmps22
    go_wp2
    · have hb : Below w0.heap.size w0 (w0.alloc (.cells #[.int .i64 8000, .int .i64 102] 77)) := (Below.refl _ w0).alloc (Nat.le_refl _) _
      go_ret2
      exact ⟨hb, hw.below hw.lt hb, Or.inr ⟨8000, w0.heap.size, 102, Or.inr ⟨hs', rfl, rfl⟩, rfl, Nat.le_refl _, Array.getElem?_push_size⟩⟩
  case pos =>
    obtain ⟨i0, hi0, hz0, hz1, hz2⟩ := info_parts info48
    go_enter Tryz.func22, Tryz.ntmps22
    go_wp2
    refine loop_ghost (LxI s w0) s.size ⟨Below.refl _ _, hw, 0, .slice none 0 0, [], rfl, World.ownsRow_nil _ _ _ _, Nat.zero_le _, Nat.zero_le _, by rw [Rs.pre_nil]; rfl, rfl⟩ ?_
    intro m a w hI
    obtain ⟨hbl, hwd, at1, v, l, u, rfl, hown, h1, h2, h3, hm⟩ := lxI_open hI
    clear hI
    simp only [lxF]
    have cct := cut_any s at1 h1 hs w hwd
    have HO := hide hown
    have H3 := hide h3
    have HB := hide hbl
    have HW := hide hw
    have HO2 : Hid (∀ (w1 : World) (o1 o2 : Obj), Below w.heap.size w w1 → ((w1.alloc o1).alloc o2).ownsRow w0.heap.size 73 3 v l.length (tz s l)) := fun w1 o1 o2 h => ((own_later hown h).alloc o1).alloc o2
    have HS : Hid (∀ (w1 : World) (o1 o2 : Obj), Below w.heap.size w w1 → w0.heap.size ≤ ((w1.alloc o1).alloc o2).heap.size) := fun w1 o1 o2 h => by
      have := hbl.size; have := h.size; simp; omega
    clear hown h3 hbl hwd hw
    go_wp2_with (first | (go_at_call 41; refine cct.mono ?_; rintro e w1 ⟨hb1, hwd1, ⟨kd, st, en, rfl, hcd⟩ | ⟨st, rfl, hno⟩⟩) | (at_builtin; apply stopHere))
    · show wpList _ _ _ _ _ _
      refine wpList_append_lies _ rfl (.tmp 27) (.tmp 29) 53 rfl w0.heap.size 73 i0 (.agg #[.int .i64 0, .string ByteArray.empty, .int .i64 0]) 3 32 Tryz.underlying53 hi0 hz0 hz1 hz2 rfl (by decide) v l.length (tz s l) rfl (HO2.out _ _ _ (by assumption)) ⟨_ + 1, 0, none⟩ 1 1 [.int .i64 (kd : Nat), .string (s.extract st en), .int .i64 (st : Nat)] rfl rfl ?d1 ?d2 (by decide) ?d3 ?d4 (HS.out _ _ _ (by assumption)) _ rfl ?_
      case d1 =>
        intro j u hj
        have hh : ((w1.alloc (.cells #[.int .i64 (kd : Nat), .string (s.extract st en), .int .i64 (st : Nat)] 73)).alloc (.cells #[.int .i64 (kd : Nat), .string (s.extract st en), .int .i64 (st : Nat)] 73)).heap[w1.heap.size + 1]? = some (.cells #[.int .i64 (kd : Nat), .string (s.extract st en), .int .i64 (st : Nat)] 73 (0, 0)) := by
          have : w1.heap.size + 1 = (w1.alloc (.cells #[.int .i64 (kd : Nat), .string (s.extract st en), .int .i64 (st : Nat)] 73)).heap.size := by simp
          rw [this]
          exact Array.getElem?_push_size
        have hc := fun j => cell_of_row _ _ j _ 73 (0, 0) hh
        rw [← hj]
        simp only [Addr.add, Nat.zero_add]
        split
        · rename_i h0
          subst h0
          rw [hc 0]
          rfl
        · rw [hc j]
          simp
      case d2 =>
        intro u hu
        simp only [List.mem_cons, List.not_mem_nil, or_false] at hu
        rcases hu with rfl | rfl | rfl <;> rfl
      case d3 => unfold maxLen; omega
      case d4 => omega
      intro g cap w2 k1 k2 k3 k4
      obtain ⟨f0, f1, f2⟩ := lx_cells HO.out hb1.size k2
      obtain ⟨bb, bw⟩ := lx_below HB.out HO.out hb1 k2 HW.out
      have K1 := hide k1
      have KB := hide bb
      have KW := hide bw
      have hk : kd < 4 ∧ en ≤ s.size ∧ st ≤ en := ⟨by obtain ⟨_, _, _, h | h⟩ := hcd <;> omega, hcd.2.2.1, hcd.2.1⟩
      have HD := hide hcd
      clear k1 k2 k3 bb bw hcd hb1 hwd1
      go_wp2
      · rename_i g0
        simp only [beq_iff_eq] at g0
        obtain ⟨q1, q2, q3, ⟨q4, q5, q6, q7⟩ | ⟨q4, _⟩⟩ := HD.out
        · go_ret2
          refine ⟨KB.out, KW.out, Or.inl ⟨l ++ [⟨kd, st, en⟩], _, hs, ?_, by simp; omega, rfl, ?_⟩⟩
          · rw [H3.out, q7, q4, q5, q6]
            rfl
          · rw [tz_push]
            have := K1.out
            simpa using this
        · omega
      · rename_i g0
        simp only [beq_eq_false_iff_ne, ne_eq] at g0
        obtain ⟨q1, q2, q3, ⟨q4, _⟩ | ⟨q4, q5, q6, q7⟩⟩ := HD.out
        · omega
        · rw [show (st : Int) + ((en - st : Nat) : Int) = (en : Int) by omega]
          refine ⟨s.size - en, by omega, KB.out, KW.out, en, _, l ++ [⟨kd, st, en⟩], rfl, ?_, by omega, by simp; omega, ?_, rfl⟩
          · rw [tz_push]
            have := K1.out
            simpa using this
          · rw [H3.out, q7, Rs.pre_cons]
    · have HN := hide hno
      have HB1 := hide hb1
      clear hno hb1 hwd1 HO2 HS HO
      go_region
      rename_i K hK
      refine hK _ _ ?_
      go_wp2
      go_ret2
      have hs0 := HB.out.size
      have hs1 := HB1.out.size
      have hbb : Below w0.heap.size w0 ((w1.alloc (.cells #[.int .i64 0, .string ByteArray.empty, .int .i64 (st : Nat)] 73)).alloc (.cells #[.int .i64 (st : Nat), .int .i64 90] 77)).drew :=
        (((HB.out.trans (HB1.out.mono hs0)).alloc (by omega) _).alloc (by simp; omega) _).drew
      refine ⟨hbb, HW.out.below HW.out.lt hbb, Or.inr ⟨st, w1.heap.size + 1, 90, Or.inl ⟨hs, ?_, rfl⟩, rfl, by omega, ?_⟩⟩
      · rw [H3.out, HN.out]
        rfl
      · have e : w1.heap.size + 1 = (w1.alloc (.cells #[.int .i64 0, .string ByteArray.empty, .int .i64 (st : Nat)] 73)).heap.size := by simp
        rw [e]
        exact Array.getElem?_push_size
end Go.Proofs.YtmfoehaeejhlpaaGreatDoor.Le
