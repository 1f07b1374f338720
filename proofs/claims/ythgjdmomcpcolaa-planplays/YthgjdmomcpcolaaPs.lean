/-
  Plan's law: asks.
-/
import Derived.Test.YthgjdmomcpcolaaKm
namespace Go.Proofs.Ythgjdmomcpcolaa
open Go.RowKit
set_option maxRecDepth 100000
/-- What Order tells: its error, its list. -/
def oc : Option (List Nat) → Int
  | none => 180
  | some _ => 0
def oll : Option (List Nat) → List Int
  | none => []
  | some o => up o
theorem OrOut.open {w w' : World} {r : Option (List Nat)} {e : Ending} (h : OrOut w r e w') : ∃ v, e = .returned (.tuple #[v, .int .i64 (oc r)]) ∧ Rw w' w.heap.size v (oll r) ∧ Below w.heap.size w w' := by
  obtain ⟨h1, h2⟩ := h
  cases r with
  | none => exact ⟨_, h1, Rw.nil _ _, h2⟩
  | some o =>
    obtain ⟨v, h1, h3⟩ := h1
    exact ⟨v, h1, h3, h2⟩
theorem oll_len {L : List Sy} {sts : List (List Nat)} (h : StOf L L.length sts) (hL : L.length ≤ 1000) (xs : List Int) : (oll (ordR sts L.length xs)).length ≤ 1000 := by
  cases hr : ordR sts L.length xs with
  | none => simp [oll]
  | some a =>
    show (up a).length ≤ 1000
    rw [up_len]
    unfold ordR at hr
    by_cases c : (if xs = [] then List.replicate L.length 0 else xs).length = L.length
    · rw [if_pos c] at hr
      have := (ordS_perm sts _ a (by rw [h.flat_len]; exact c) hr).length_eq
      rw [h.flat_len] at this
      omega
    · rw [if_neg c] at hr
      cases hr
section
variable {w : World} {B g : Nat} {L : List Sy} {sts : List (List Nat)} {vx : Value} {xs : List Int}
theorem ask_stages (hp : Pl w B g (L.map setS)) (hst : StOf L L.length sts) : Calls Try.prog 18 #[.pointer (some ⟨g, 0, none⟩)] w fun e w' => ∃ v rs, e = .returned v ∧ Ss w' w.heap.size v rs sts ∧ Below w.heap.size w w' := by
  refine (stages_any hp).mono ?_
  rintro e w' ⟨v, rs, st2, h1, h2, h3, h4⟩
  obtain rfl := hst.sets.unique h3
  exact ⟨v, rs, h1, h2, h4⟩
theorem ask_order (hp : Pl w B g (L.map setS)) (hst : StOf L L.length sts) (hx : Rl w vx xs) : Calls Try.prog 19 #[.pointer (some ⟨g, 0, none⟩), vx] w fun e w' => ∃ v, e = .returned (.tuple #[v, .int .i64 (oc (ordR sts L.length xs))]) ∧ Rw w' w.heap.size v (oll (ordR sts L.length xs)) ∧ Below w.heap.size w w' := by
  refine (order_any hp hx).mono ?_
  rintro e w' ⟨st2, h3, h4⟩
  obtain rfl := hst.sets.unique h3
  rw [List.length_map] at h4
  exact h4.open
theorem dask_stages (hp : Dp w B g L) (hst : StOf L L.length sts) : Calls Try.prog 27 #[.pointer (some ⟨g, 0, none⟩)] w fun e w' => ∃ v rs, e = .returned v ∧ Ss w' w.heap.size v rs sts ∧ Below w.heap.size w w' := by
  refine (dstages_any hp).mono ?_
  rintro e w' ⟨v, rs, st2, h1, h2, h3, h4⟩
  obtain rfl := hst.unique h3
  exact ⟨v, rs, h1, h2, h4⟩
theorem dask_order (hp : Dp w B g L) (hst : StOf L L.length sts) (hx : Rl w vx xs) (hxs : xs.length * 8 ≤ 140737488355328) : Calls Try.prog 26 #[.pointer (some ⟨g, 0, none⟩), vx] w fun e w' => ∃ v, e = .returned (.tuple #[v, .int .i64 (oc (ordR sts L.length xs))]) ∧ Rw w' w.heap.size v (oll (ordR sts L.length xs)) ∧ Below w.heap.size w w' := by
  refine (dorder_any hp hx hxs).mono ?_
  rintro e w' ⟨st2, h3, h4⟩
  obtain rfl := hst.unique h3
  exact h4.open
end
/-- One of three. -/
def f3 {α : Type} (a b c : α) (j : Nat) : α := if j = 0 then a else if j = 1 then b else c
theorem all3 {P : Nat → Prop} (h0 : P 0) (h1 : P 1) (h2 : P 2) : ∀ j, j < 3 → P j := fun j hj => by
  rcases (by omega : j = 0 ∨ j = 1 ∨ j = 2) with rfl | rfl | rfl
  · exact h0
  · exact h1
  · exact h2
/-- One of seven. -/
def f7 (a b c d e f g : Nat) (j : Nat) : Nat := if j = 0 then a else if j = 1 then b else if j = 2 then c else if j = 3 then d else if j = 4 then e else if j = 5 then f else g
theorem f7_up {a b c d e f g : Nat} (h1 : a ≤ b) (h2 : b ≤ c) (h3 : c ≤ d) (h4 : d ≤ e) (h5 : e ≤ f) (h6 : f ≤ g) : ∀ i j, i ≤ j → j ≤ 6 → f7 a b c d e f g i ≤ f7 a b c d e f g j := fun i j hij hj => by
  unfold f7
  repeat' split
  all_goals omega
theorem arr3 (w : World) (a b c : Value) (t : TypeId) : ∀ j, j < 3 → (w.alloc (.cells #[a, b, c] t)).cell? ⟨w.heap.size, j, none⟩ = some (f3 a b c j) :=
  all3 (by rw [cell_of_row _ _ _ _ t (0, 0) (heap_alloc_new w _)]; rfl) (by rw [cell_of_row _ _ _ _ t (0, 0) (heap_alloc_new w _)]; rfl) (by rw [cell_of_row _ _ _ _ t (0, 0) (heap_alloc_new w _)]; rfl)
/-- A list of stages that came out of a call. -/
def Sv2 (w w' : World) (v : Value) (rs : List Value) (sts : List (List Nat)) : Prop := Ss w' w.heap.size v rs sts ∧ Below w.heap.size w w'
theorem Sv2.in {w w' : World} {v : Value} {rs : List Value} {sts : List (List Nat)} (h : Sv2 w w' v rs sts) : In (fun q => w.heap.size ≤ q ∧ q < w'.heap.size) v ∧ ∀ r ∈ rs, In (fun q => w.heap.size ≤ q ∧ q < w'.heap.size) r := by
  refine ⟨fun k e => h.1.1.lt k e, fun r hr k e => ?_⟩
  obtain ⟨j, hj, rfl⟩ := List.getElem_of_mem hr
  exact (h.1.2.2.1 j hj (by rw [← h.1.2.1]; exact hj)).lt k e
def Ov2 (w w' : World) (v : Value) (l : List Int) : Prop := Rw w' w.heap.size v l ∧ Below w.heap.size w w'
theorem Ov2.in {w w' : World} {v : Value} {l : List Int} (h : Ov2 w w' v l) : In (fun q => w.heap.size ≤ q ∧ q < w'.heap.size) v := fun k e => h.1.lt k e
theorem In.wide {S S' : Nat → Prop} {v : Value} (h : In S v) (hs : ∀ k, S k → S' k) : In S' v := fun k e => hs k (h k e)
theorem Ak.begin {w w1 w2 w3 w4 w5 w6 w7 w8 w9 w10 w11 w12 Y1 Y2 Y : World} {gb n m : Nat} {S : Nat → Prop} {v1 v2 v3 o4 o5 o6 o7 o8 t10 t11 t12 : Value} {r1 r2 r3 r10 r11 r12 : List Value} {sp sq : List (List Nat)} {lp lq : List Int}
    (s1 : Sv2 w w1 v1 r1 sp) (s2 : Sv2 w1 w2 v2 r2 sq) (s3 : Sv2 w2 w3 v3 r3 sp) (s4 : Ov2 w3 w4 o4 lp) (s5 : Ov2 w4 w5 o5 lq) (s6 : Ov2 w5 w6 o6 lp) (s7 : Ov2 w6 w7 o7 lp) (s8 : Ov2 w7 w8 o8 lq)
    (h9 : w9 = w8.alloc (.cells #[v1, v2, v3] 32)) (s10 : Sv2 w9 w10 t10 r10 sp) (s11 : Sv2 w10 w11 t11 r11 sq) (s12 : Sv2 w11 w12 t12 r12 sp)
    (hY1 : Y1 = w12.alloc (.cells #[t10, t11, t12] 32)) (hY2 : Y2 = Y1.alloc (.cells #[o4, o5, o6] 23)) (hY : Y = Y2.alloc (.cells #[o7, o8, o7] 23)) (hb : Bm w gb S n m n m)
    (hl : (sp.length ≤ 1000 ∧ (∀ st ∈ sp, st.length ≤ 1000) ∧ lp.length ≤ 1000) ∧ (sq.length ≤ 1000 ∧ (∀ st ∈ sq, st.length ≤ 1000) ∧ lq.length ≤ 1000)) :
    Ak w S gb (f7 w.heap.size w1.heap.size w2.heap.size w3.heap.size w4.heap.size w5.heap.size w6.heap.size) Y.heap.size (f3 v1 v2 v3) (f3 o4 o5 o6) (f3 t10 t11 t12) (f3 o7 o8 o7) (f3 r1 r2 r3) (f3 r10 r11 r12) (f3 sp sq sp) (f3 lp lq lp) w8.heap.size w12.heap.size Y1.heap.size Y2.heap.size 0 0 n m n m Y := by
  have bY2 : Below Y2.heap.size Y2 Y := by rw [hY]; exact below_alloc _ _
  have bY1 : Below Y1.heap.size Y1 Y := below_on (by rw [hY2]; exact below_alloc _ _) bY2
  have b12 : Below w12.heap.size w12 Y := below_on (by rw [hY1]; exact below_alloc _ _) bY1
  have b11 := below_on s12.2 b12
  have b10 := below_on s11.2 b11
  have b9 := below_on s10.2 b10
  have b8 : Below w8.heap.size w8 Y := below_on (by rw [h9]; exact below_alloc _ _) b9
  have b7 := below_on s8.2 b8
  have b6 := below_on s7.2 b7
  have b5 := below_on s6.2 b6
  have b4 := below_on s5.2 b5
  have b3 := below_on s4.2 b4
  have b2 := below_on s3.2 b3
  have b1 := below_on s2.2 b2
  have b0 := below_on s1.2 b1
  have z9 : w9.heap.size = w8.heap.size + 1 := by rw [h9, alloc_size]
  have zY1 : Y1.heap.size = w12.heap.size + 1 := by rw [hY1, alloc_size]
  have zY2 : Y2.heap.size = Y1.heap.size + 1 := by rw [hY2, alloc_size]
  have zY : Y.heap.size = Y2.heap.size + 1 := by rw [hY, alloc_size]
  have q1 := s1.2.size
  have q2 := s2.2.size
  have q3 := s3.2.size
  have q4 := s4.2.size
  have q5 := s5.2.size
  have q6 := s6.2.size
  have q7 := s7.2.size
  have q8 := s8.2.size
  have q10 := s10.2.size
  have q11 := s11.2.size
  have q12 := s12.2.size
  exact {
    bm := (hb.mono (fun k hk c => .inl ⟨c, hk⟩)).later b0
    st := fun j _ => all3 (P := fun j => Ss Y 0 (f3 v1 v2 v3 j) (f3 r1 r2 r3 j) (f3 sp sq sp j) ∧ In (TS (f7 w.heap.size w1.heap.size w2.heap.size w3.heap.size w4.heap.size w5.heap.size w6.heap.size) j) (f3 v1 v2 v3 j) ∧ ∀ r ∈ f3 r1 r2 r3 j, In (TS (f7 w.heap.size w1.heap.size w2.heap.size w3.heap.size w4.heap.size w5.heap.size w6.heap.size) j) r)
      ⟨(s1.1.later b1).lower (Nat.zero_le _), s1.in.1, s1.in.2⟩ ⟨(s2.1.later b2).lower (Nat.zero_le _), s2.in.1, s2.in.2⟩ ⟨(s3.1.later b3).lower (Nat.zero_le _), s3.in.1, s3.in.2⟩ j
    od := fun j _ => all3 (P := fun j => Rw Y 0 (f3 o4 o5 o6 j) (f3 lp lq lp j) ∧ In (TO (f7 w.heap.size w1.heap.size w2.heap.size w3.heap.size w4.heap.size w5.heap.size w6.heap.size) j) (f3 o4 o5 o6 j))
      ⟨own_lower (own_later s4.1 b4) (Nat.zero_le _), s4.in⟩ ⟨own_lower (own_later s5.1 b5) (Nat.zero_le _), s5.in⟩ ⟨own_lower (own_later s6.1 b6) (Nat.zero_le _), s6.in⟩ j
    dt := all3 (P := fun j => Ss Y 0 (f3 t10 t11 t12 j) (f3 r10 r11 r12 j) (f3 sp sq sp j) ∧ In (Dz (f7 w.heap.size w1.heap.size w2.heap.size w3.heap.size w4.heap.size w5.heap.size w6.heap.size) Y.heap.size) (f3 t10 t11 t12 j) ∧ ∀ r ∈ f3 r10 r11 r12 j, In (Dz (f7 w.heap.size w1.heap.size w2.heap.size w3.heap.size w4.heap.size w5.heap.size w6.heap.size) Y.heap.size) r)
      ⟨(s10.1.later b10).lower (Nat.zero_le _), s10.in.1.wide (fun k e => ⟨by show w6.heap.size ≤ k; omega, by omega⟩), fun r hr => (s10.in.2 r hr).wide (fun k e => ⟨by show w6.heap.size ≤ k; omega, by omega⟩)⟩
      ⟨(s11.1.later b11).lower (Nat.zero_le _), s11.in.1.wide (fun k e => ⟨by show w6.heap.size ≤ k; omega, by omega⟩), fun r hr => (s11.in.2 r hr).wide (fun k e => ⟨by show w6.heap.size ≤ k; omega, by omega⟩)⟩
      ⟨(s12.1.later b12).lower (Nat.zero_le _), s12.in.1.wide (fun k e => ⟨by show w6.heap.size ≤ k; omega, by omega⟩), fun r hr => (s12.in.2 r hr).wide (fun k e => ⟨by show w6.heap.size ≤ k; omega, by omega⟩)⟩
    dw := all3 (P := fun j => Rl Y (f3 o7 o8 o7 j) (f3 lp lq lp j) ∧ In (Dz (f7 w.heap.size w1.heap.size w2.heap.size w3.heap.size w4.heap.size w5.heap.size w6.heap.size) Y.heap.size) (f3 o7 o8 o7 j))
      ⟨(Rl.of s7.1).later b7, s7.in.wide (fun k e => ⟨by show w6.heap.size ≤ k; omega, by omega⟩)⟩
      ⟨(Rl.of s8.1).later b8, s8.in.wide (fun k e => ⟨by show w6.heap.size ≤ k; omega, by omega⟩)⟩
      ⟨(Rl.of s7.1).later b7, s7.in.wide (fun k e => ⟨by show w6.heap.size ≤ k; omega, by omega⟩)⟩
    ar := fun j hj => by
      have mv9 := Mv.of_below b9 (fun _ => False)
      have mvY1 := Mv.of_below bY1 (fun _ => False)
      have mvY2 := Mv.of_below bY2 (fun _ => False)
      refine ⟨mv9.cell (by rw [h9]; exact arr3 w8 v1 v2 v3 32 j hj) id, mvY1.cell (by rw [hY1]; exact arr3 w12 t10 t11 t12 32 j hj) id, mvY2.cell (by rw [hY2]; exact arr3 Y1 o4 o5 o6 23 j hj) id, by rw [hY]; exact arr3 Y2 o7 o8 o7 23 j hj⟩
    ag := ⟨⟨by show w6.heap.size ≤ _; omega, by omega⟩, ⟨by show w6.heap.size ≤ _; omega, by omega⟩, ⟨by show w6.heap.size ≤ _; omega, by omega⟩, ⟨by show w6.heap.size ≤ _; omega, by omega⟩⟩
    mv := Mv.of_below b0 _
    up := f7_up q1 q2 q3 q4 q5 q6
    h0 := rfl
    hy := ⟨by show w6.heap.size ≤ _; omega, Nat.le_refl _⟩
    len := all3 (P := fun j => (f3 sp sq sp j).length ≤ 1000 ∧ (∀ st ∈ f3 sp sq sp j, st.length ≤ 1000) ∧ (f3 lp lq lp j).length ≤ 1000) hl.1 hl.2 hl.1 }
set_option maxHeartbeats 16000000 in
theorem asks_any {w : World} {B1 B2 B3 B4 gp gq gr gs gb n m : Nat} {S : Nat → Prop} {Lp Lq : List Sy} {vx vk : Value} {xs : List Int} (hp : Pl w B1 gp (Lp.map setS)) (hq : Pl w B2 gq (Lq.map setS)) (hr : Dp w B3 gr Lp) (hs : Dp w B4 gs Lq) (hx : Rl w vx xs) (hk : Rl w vk xs) (hxs : xs.length * 8 ≤ 140737488355328) (hb : Bm w gb S n m n m) (hn : n ≤ 30000) (hm : m ≤ 1000) :
    Calls Try.prog 11 #[.pointer (some ⟨gp, 0, none⟩), .pointer (some ⟨gq, 0, none⟩), .pointer (some ⟨gr, 0, none⟩), .pointer (some ⟨gs, 0, none⟩), vx, vk, .pointer (some ⟨gb, 0, none⟩)] w fun e w' => e = .returned (.bool true) ∧ (∃ N M, N ≤ n + 7000 ∧ M ≤ m + 10 ∧ Bm w' gb (fun k => S k ∨ w.heap.size ≤ k) N M N M) ∧ Mv w w' S := by
  have hLp : Lp.length ≤ 1000 := by
    obtain ⟨_, _, _, _, _, _, _, _, _, _, h7, _⟩ := hr
    exact h7
  have hLq : Lq.length ≤ 1000 := by
    obtain ⟨_, _, _, _, _, _, _, _, _, _, h7, _⟩ := hs
    exact h7
  obtain ⟨sp, hsp⟩ := StOf.ex Lp Lp.length (Nat.le_refl _)
  obtain ⟨sq, hsq⟩ := StOf.ex Lq Lq.length (Nat.le_refl _)
  obtain ⟨lp, hlp⟩ : ∃ l, l = oll (ordR sp Lp.length xs) := ⟨_, rfl⟩
  obtain ⟨lq, hlq⟩ : ∃ l, l = oll (ordR sq Lq.length xs) := ⟨_, rfl⟩
  obtain ⟨cp, hcp⟩ : ∃ c, c = oc (ordR sp Lp.length xs) := ⟨_, rfl⟩
  obtain ⟨cq, hcq⟩ : ∃ c, c = oc (ordR sq Lq.length xs) := ⟨_, rfl⟩
  have JSp : Hid (∀ W, Below w.heap.size w W → Calls Try.prog 18 #[.pointer (some ⟨gp, 0, none⟩)] W fun e w' => ∃ v rs, e = .returned v ∧ Sv2 W w' v rs sp) := fun W hW => ask_stages (hp.later hW) hsp
  have JSq : Hid (∀ W, Below w.heap.size w W → Calls Try.prog 18 #[.pointer (some ⟨gq, 0, none⟩)] W fun e w' => ∃ v rs, e = .returned v ∧ Sv2 W w' v rs sq) := fun W hW => ask_stages (hq.later hW) hsq
  have JOp : Hid (∀ W, Below w.heap.size w W → Calls Try.prog 19 #[.pointer (some ⟨gp, 0, none⟩), vx] W fun e w' => ∃ v, e = .returned (.tuple #[v, .int .i64 cp]) ∧ Ov2 W w' v lp) := fun W hW => by
    rw [hlp, hcp]
    exact ask_order (hp.later hW) hsp (hx.later hW)
  have JOq : Hid (∀ W, Below w.heap.size w W → Calls Try.prog 19 #[.pointer (some ⟨gq, 0, none⟩), vx] W fun e w' => ∃ v, e = .returned (.tuple #[v, .int .i64 cq]) ∧ Ov2 W w' v lq) := fun W hW => by
    rw [hlq, hcq]
    exact ask_order (hq.later hW) hsq (hx.later hW)
  have JDr : Hid (∀ W, Below w.heap.size w W → Calls Try.prog 26 #[.pointer (some ⟨gr, 0, none⟩), vk] W fun e w' => ∃ v, e = .returned (.tuple #[v, .int .i64 cp]) ∧ Ov2 W w' v lp) := fun W hW => by
    rw [hlp, hcp]
    exact dask_order (hr.later hW) hsp (hk.later hW) hxs
  have JDs : Hid (∀ W, Below w.heap.size w W → Calls Try.prog 26 #[.pointer (some ⟨gs, 0, none⟩), vk] W fun e w' => ∃ v, e = .returned (.tuple #[v, .int .i64 cq]) ∧ Ov2 W w' v lq) := fun W hW => by
    rw [hlq, hcq]
    exact dask_order (hs.later hW) hsq (hk.later hW) hxs
  have JTr : Hid (∀ W, Below w.heap.size w W → Calls Try.prog 27 #[.pointer (some ⟨gr, 0, none⟩)] W fun e w' => ∃ v rs, e = .returned v ∧ Sv2 W w' v rs sp) := fun W hW => dask_stages (hr.later hW) hsp
  have JTs : Hid (∀ W, Below w.heap.size w W → Calls Try.prog 27 #[.pointer (some ⟨gs, 0, none⟩)] W fun e w' => ∃ v rs, e = .returned v ∧ Sv2 W w' v rs sq) := fun W hW => dask_stages (hs.later hW) hsq
  have HLEN : Hid ((sp.length ≤ 1000 ∧ (∀ st ∈ sp, st.length ≤ 1000) ∧ lp.length ≤ 1000) ∧ (sq.length ≤ 1000 ∧ (∀ st ∈ sq, st.length ≤ 1000) ∧ lq.length ≤ 1000)) := by
    refine ⟨⟨Nat.le_trans hsp.few hLp, fun st hst => ?_, by rw [hlp]; exact oll_len hsp hLp xs⟩, Nat.le_trans hsq.few hLq, fun st hst => ?_, by rw [hlq]; exact oll_len hsq hLq xs⟩
    · obtain ⟨j, hj, rfl⟩ := List.getElem_of_mem hst
      exact Nat.le_trans (hsp.short hj) hLp
    · obtain ⟨j, hj, rfl⟩ := List.getElem_of_mem hst
      exact Nat.le_trans (hsq.short hj) hLq
  have HBM := hide hb
  have HNM : Hid (n ≤ 30000 ∧ m ≤ 1000) := ⟨hn, hm⟩
  obtain ⟨ax, cx, rfl, -⟩ := hx
  obtain ⟨ak, ck, rfl, -⟩ := hk
  clear hp hq hr hs hxs hb hn hm hLp hLq hsp hsq hlp hlq hcp hcq
  go_enter Try.func11, Try.ntmps11
  go_wp2_with fail
  refine (JSp.out w (Below.refl _ _)).mono ?_
  rintro e w1 ⟨v1, r1, rfl, s1⟩
  obtain ⟨a1, c1, hv1⟩ := own_len s1.1.1
  have H1 := hide s1
  have B1 := hide s1.2
  clear s1
  subst hv1
  go_wp2_with fail
  refine (JSq.out w1 B1.out).mono ?_
  rintro e w2 ⟨v2, r2, rfl, s2⟩
  obtain ⟨a2, c2, hv2⟩ := own_len s2.1.1
  have H2 := hide s2
  have B2 := hide (below_on B1.out s2.2)
  clear s2
  subst hv2
  go_wp2_with fail
  refine (JSp.out w2 B2.out).mono ?_
  rintro e w3 ⟨v3, r3, rfl, s3⟩
  obtain ⟨a3, c3, hv3⟩ := own_len s3.1.1
  have H3 := hide s3
  have B3 := hide (below_on B2.out s3.2)
  clear s3
  subst hv3
  go_wp2_with fail
  refine (JOp.out w3 B3.out).mono ?_
  rintro e w4 ⟨o4, rfl, s4⟩
  obtain ⟨a4, c4, ho4⟩ := own_len s4.1
  have H4 := hide s4
  have B4 := hide (below_on B3.out s4.2)
  clear s4
  subst ho4
  go_wp2_with fail
  refine (JOq.out w4 B4.out).mono ?_
  rintro e w5 ⟨o5, rfl, s5⟩
  obtain ⟨a5, c5, ho5⟩ := own_len s5.1
  have H5 := hide s5
  have B5 := hide (below_on B4.out s5.2)
  clear s5
  subst ho5
  go_wp2_with fail
  refine (JOp.out w5 B5.out).mono ?_
  rintro e w6 ⟨o6, rfl, s6⟩
  obtain ⟨a6, c6, ho6⟩ := own_len s6.1
  have H6 := hide s6
  have B6 := hide (below_on B5.out s6.2)
  clear s6
  subst ho6
  go_wp2_with fail
  refine (JDr.out w6 B6.out).mono ?_
  rintro e w7 ⟨o7, rfl, s7⟩
  obtain ⟨a7, c7, ho7⟩ := own_len s7.1
  have H7 := hide s7
  have B7 := hide (below_on B6.out s7.2)
  clear s7
  subst ho7
  go_wp2_with fail
  refine (JDs.out w7 B7.out).mono ?_
  rintro e w8 ⟨o8, rfl, s8⟩
  obtain ⟨a8, c8, ho8⟩ := own_len s8.1
  have H8 := hide s8
  have B8 := hide (below_on B7.out s8.2)
  clear s8
  subst ho8
  go_upto_region 10 with fail
  obtain ⟨w9, hw9⟩ : ∃ X, X = w8.alloc (.cells #[.slice a1 r1.length c1, .slice a2 r2.length c2, .slice a3 r3.length c3] 32) := ⟨_, rfl⟩
  obtain ⟨ga, hga⟩ : ∃ g, g = w8.heap.size := ⟨_, rfl⟩
  rw [← hw9, ← hga]
  have B9 : Hid (Below w.heap.size w w9) := by
    unfold Hid
    rw [hw9]
    exact below_on B8.out (below_alloc _ _)
  have HW9 := hide hw9
  have HGA := hide hga
  clear hw9 hga
  go_wp2_with fail
  refine (JTr.out w9 B9.out).mono ?_
  rintro e w10 ⟨t10, r10, rfl, s10⟩
  obtain ⟨a10, c10, ht10⟩ := own_len s10.1.1
  have H10 := hide s10
  have B10 := hide (below_on B9.out s10.2)
  clear s10
  subst ht10
  go_wp2_with fail
  refine (JTs.out w10 B10.out).mono ?_
  rintro e w11 ⟨t11, r11, rfl, s11⟩
  obtain ⟨a11, c11, ht11⟩ := own_len s11.1.1
  have H11 := hide s11
  have B11 := hide (below_on B10.out s11.2)
  clear s11
  subst ht11
  go_wp2_with fail
  refine (JTr.out w11 B11.out).mono ?_
  rintro e w12 ⟨t12, r12, rfl, s12⟩
  obtain ⟨a12, c12, ht12⟩ := own_len s12.1.1
  have H12 := hide s12
  clear s12
  subst ht12
  go_upto_region 11 with fail
  obtain ⟨Y1, hY1⟩ : ∃ X, X = w12.alloc (.cells #[.slice a10 r10.length c10, .slice a11 r11.length c11, .slice a12 r12.length c12] 32) := ⟨_, rfl⟩
  obtain ⟨gw, hgw⟩ : ∃ g, g = w12.heap.size := ⟨_, rfl⟩
  rw [← hY1, ← hgw]
  have HY1 := hide hY1
  have HGW := hide hgw
  clear hY1 hgw
  go_upto_region 12 with fail
  obtain ⟨Y2, hY2⟩ : ∃ X, X = Y1.alloc (.cells #[.slice a4 lp.length c4, .slice a5 lq.length c5, .slice a6 lp.length c6] 23) := ⟨_, rfl⟩
  obtain ⟨go, hgo⟩ : ∃ g, g = Y1.heap.size := ⟨_, rfl⟩
  rw [← hY2, ← hgo]
  have HY2 := hide hY2
  have HGO := hide hgo
  clear hY2 hgo
  go_upto_region 13 with fail
  obtain ⟨Y, hY⟩ : ∃ X, X = Y2.alloc (.cells #[.slice a7 lp.length c7, .slice a8 lq.length c8, .slice a7 lp.length c7] 23) := ⟨_, rfl⟩
  obtain ⟨gv, hgv⟩ : ∃ g, g = Y2.heap.size := ⟨_, rfl⟩
  rw [← hY, ← hgv]
  have A0 := hide (Ak.begin H1.out H2.out H3.out H4.out H5.out H6.out H7.out H8.out HW9.out H10.out H11.out H12.out HY1.out HY2.out hY HBM.out HLEN.out)
  rw [← HGA.out, ← HGW.out, ← HGO.out, ← hgv] at A0
  obtain ⟨vs, hvs⟩ : ∃ f, f = f3 (Value.slice a1 r1.length c1) (.slice a2 r2.length c2) (.slice a3 r3.length c3) := ⟨_, rfl⟩
  obtain ⟨vo, hvo⟩ : ∃ f, f = f3 (Value.slice a4 lp.length c4) (.slice a5 lq.length c5) (.slice a6 lp.length c6) := ⟨_, rfl⟩
  obtain ⟨tv, htv⟩ : ∃ f, f = f3 (Value.slice a10 r10.length c10) (.slice a11 r11.length c11) (.slice a12 r12.length c12) := ⟨_, rfl⟩
  obtain ⟨wv, hwv⟩ : ∃ f, f = f3 (Value.slice a7 lp.length c7) (.slice a8 lq.length c8) (.slice a7 lp.length c7) := ⟨_, rfl⟩
  rw [← hvs, ← hvo, ← htv, ← hwv] at A0
  obtain ⟨hh, hhh⟩ : ∃ f, f = f7 w.heap.size w1.heap.size w2.heap.size w3.heap.size w4.heap.size w5.heap.size w6.heap.size := ⟨_, rfl⟩
  rw [← hhh] at A0
  obtain ⟨HY, hHY⟩ : ∃ h, h = Y.heap.size := ⟨_, rfl⟩
  rw [← hHY] at A0
  have HRL : Hid (∀ j, j < 3 → (f3 r1 r2 r3 j).length ≤ 1000) := all3 (P := fun j => (f3 r1 r2 r3 j).length ≤ 1000) (by show r1.length ≤ 1000; rw [H1.out.1.2.1]; exact HLEN.out.1.1) (by show r2.length ≤ 1000; rw [H2.out.1.2.1]; exact HLEN.out.2.1) (by show r3.length ≤ 1000; rw [H3.out.1.2.1]; exact HLEN.out.1.1)
  have HV : Hid (∀ j, j < 3 → (∃ a l c, vs j = .slice a l c) ∧ (∃ a l c, vo j = .slice a l c) ∧ (∃ a l c, tv j = .slice a l c) ∧ ∃ a l c, wv j = .slice a l c) := by
    rw [hvs, hvo, htv, hwv]
    exact all3 (P := fun j => (∃ a l c, f3 (Value.slice a1 r1.length c1) (.slice a2 r2.length c2) (.slice a3 r3.length c3) j = .slice a l c) ∧ (∃ a l c, f3 (Value.slice a4 lp.length c4) (.slice a5 lq.length c5) (.slice a6 lp.length c6) j = .slice a l c) ∧ (∃ a l c, f3 (Value.slice a10 r10.length c10) (.slice a11 r11.length c11) (.slice a12 r12.length c12) j = .slice a l c) ∧ ∃ a l c, f3 (Value.slice a7 lp.length c7) (.slice a8 lq.length c8) (.slice a7 lp.length c7) j = .slice a l c) ⟨⟨_, _, _, rfl⟩, ⟨_, _, _, rfl⟩, ⟨_, _, _, rfl⟩, ⟨_, _, _, rfl⟩⟩ ⟨⟨_, _, _, rfl⟩, ⟨_, _, _, rfl⟩, ⟨_, _, _, rfl⟩, ⟨_, _, _, rfl⟩⟩ ⟨⟨_, _, _, rfl⟩, ⟨_, _, _, rfl⟩, ⟨_, _, _, rfl⟩, ⟨_, _, _, rfl⟩⟩
  clear H1 H2 H3 H4 H5 H6 H7 H8 HW9 H10 H11 H12 HY1 HY2 hY hgv B1 B2 B3 B4 B5 B6 B7 B8 B9 B10 B11 HGA HGW HGO hvs hvo htv hwv hhh hHY HBM HLEN JSp JSq JOp JOq JDr JDs JTr JTs
  go_wp2_with fail
  go_loopw [32] (fun v32 X => ∃ k n' m' : Nat, k ≤ 3 ∧ v32 = .int .i64 (k : Int) ∧ Hid (n' ≤ n + 2002 * k ∧ m' ≤ m + 2 * k ∧ Ak w S gb hh HY vs vo tv wv (f3 r1 r2 r3) (f3 r10 r11 r12) (f3 sp sq sp) (f3 lp lq lp) ga gw go gv k k n' m' n' m' X)) (fun v32 _ => 3 - (intOf v32).toNat)
  case atStart => exact ⟨0, n, m, by omega, rfl, by omega, by omega, A0.out⟩
  case round =>
    obtain ⟨k, n', m', hk, rfl, HR⟩ := hrel
    clear A0
    by_cases hlt : k < 3
    · have t1 : (k : Int) < 3 := by omega
      have Q0 := hide HR.out
      clear HR
      go_wp2_with fail
      go_loopw [33] (fun v33 X => ∃ j : Nat, k ≤ j ∧ j ≤ 3 ∧ v33 = .int .i64 (j : Int) ∧ Hid (n' ≤ n + 2002 * k ∧ m' ≤ m + 2 * k ∧ Ak w S gb hh HY vs vo tv wv (f3 r1 r2 r3) (f3 r10 r11 r12) (f3 sp sq sp) (f3 lp lq lp) ga gw go gv k k n' m' n' m' X)) (fun v33 _ => 3 - (intOf v33).toNat)
      case atStart => exact ⟨k, Nat.le_refl _, hk, rfl, Q0.out⟩
      case round =>
        obtain ⟨j, hkj, hj, rfl, HR⟩ := hrel
        clear Q0
        by_cases hlt2 : j < 3
        · have t2 : (j : Int) < 3 := by omega
          have hA := HR.out.2.2
          have HC : Hid (∀ V, Below wr.heap.size wr V → (V.cell? ⟨ga, j, none⟩ = some (vs j) ∧ V.cell? ⟨gw, j, none⟩ = some (tv j) ∧ V.cell? ⟨go, j, none⟩ = some (vo j) ∧ V.cell? ⟨gv, j, none⟩ = some (wv j)) ∧ Calls Try.prog 28 #[vs j, tv j] V (fun e X' => e = .returned (.bool true) ∧ Below V.heap.size V X') ∧ Calls Try.prog 29 #[vo j, wv j] V (fun e X' => e = .returned (.bool true) ∧ Below V.heap.size V X')) := fun V hV => by
            have hAV := hA.later hV hk hk
            exact ⟨hAV.ar j hlt2, hAV.lits j hlt2 hkj hkj⟩
          have HAV : Hid (∀ V, Below wr.heap.size wr V → n' ≤ n + 2002 * k ∧ m' ≤ m + 2 * k ∧ Ak w S gb hh HY vs vo tv wv (f3 r1 r2 r3) (f3 r10 r11 r12) (f3 sp sq sp) (f3 lp lq lp) ga gw go gv k k n' m' n' m' V) := fun V hV => ⟨HR.out.1, HR.out.2.1, hA.later hV hk hk⟩
          generalize vs j = x1 at HC
          generalize tv j = x2 at HC
          generalize vo j = x3 at HC
          generalize wv j = x4 at HC
          obtain ⟨⟨d1, d2, d3, d4⟩, -⟩ := HC.out wr (Below.refl _ _)
          have SS : Hid (wr.drew.cell? ⟨ga, j, none⟩ = some x1 ∧ wr.drew.cell? ⟨gw, j, none⟩ = some x2) := ⟨(HC.out _ (below_drew wr)).1.1, (HC.out _ (below_drew wr)).1.2.1⟩
          clear hA HR
          go_wp2_with fail
          go_region_held3 (fun V => V.cell? ⟨ga, j, none⟩ = some x1 ∧ V.cell? ⟨gw, j, none⟩ = some x2) (first | exact SS.out | exact S6) ((go_at_call 28; refine (HC.out _ (below_drew wr)).2.1.mono ?_; rintro e w6 ⟨rfl, b6⟩; have B6 := hide (below_on (below_drew wr) b6); have S6 := And.intro (HC.out w6 B6.out).1.1 (HC.out w6 B6.out).1.2.1; clear b6))
          clear S6 d1 d2 d3 d4
          obtain ⟨⟨-, -, d3, d4⟩, -⟩ := HC.out w6 B6.out
          have SS2 : Hid (w6.drew.cell? ⟨go, j, none⟩ = some x3 ∧ w6.drew.cell? ⟨gv, j, none⟩ = some x4) := ⟨(HC.out _ (below_on B6.out (below_drew w6))).1.2.2.1, (HC.out _ (below_on B6.out (below_drew w6))).1.2.2.2⟩
          go_wp2_with fail
          go_region_held3 (fun V => V.cell? ⟨go, j, none⟩ = some x3 ∧ V.cell? ⟨gv, j, none⟩ = some x4) (first | exact SS2.out | exact S7) ((go_at_call 29; refine (HC.out _ (below_on B6.out (below_drew w6))).2.2.mono ?_; rintro e w7 ⟨rfl, b7⟩; have B7 := hide (below_on B6.out (below_on (below_drew w6) b7)); have S7 := And.intro (HC.out w7 B7.out).1.2.2.1 (HC.out w7 B7.out).1.2.2.2; clear b7))
          clear S7 d3 d4
          go_wp2_with fail
          go_roundw
          case rel => exact ⟨j + 1, by omega, by omega, rfl, HAV.out w7 B7.out⟩
          case measure => simp only [intOf]; omega
        · have t2 : ¬ (j : Int) < 3 := by omega
          have hA := HR.out.2.2
          have hbn : n' ≤ 50000 - 2100 ∧ m' ≤ 2000 := by have := HNM.out; have := HR.out.1; have := HR.out.2.1; omega
          have JK : Hid (Calls Try.prog 30 #[.pointer (some ⟨gb, 0, none⟩), vs k] wr fun e X' => e = .returned (.tuple #[]) ∧ Ak w S gb hh HY vs vo tv wv (f3 r1 r2 r3) (f3 r10 r11 r12) (f3 sp sq sp) (f3 lp lq lp) ga gw go gv (k + 1) k n' m' (n' + (f3 r1 r2 r3 k).length) (m' + 1) X') := hA.keeps hlt (by omega) (by omega) (by omega)
          have d1 := (hA.ar k hlt).1
          have HBN := hide hbn
          have HRB := hide (And.intro HR.out.1 HR.out.2.1)
          generalize hxk : vs k = x1 at d1 JK
          clear hA HR hbn hxk
          go_wp2_with fail
          refine JK.out.mono ?_
          rintro e X1 ⟨rfl, hA1⟩
          have d2 := (hA1.ar k hlt).2.2.1
          have JK2 : Hid (Calls Try.prog 31 #[.pointer (some ⟨gb, 0, none⟩), vo k] X1 fun e X' => e = .returned (.tuple #[]) ∧ Ak w S gb hh HY vs vo tv wv (f3 r1 r2 r3) (f3 r10 r11 r12) (f3 sp sq sp) (f3 lp lq lp) ga gw go gv (k + 1) (k + 1) n' m' (n' + (f3 r1 r2 r3 k).length + 1) (m' + 1) X') := hA1.keep hlt (by omega) (by have := HBN.out; have := HRL.out k hlt; omega)
          generalize hyk : vo k = x2 at d2 JK2
          clear hA1 hyk JK d1
          go_wp2_with fail
          refine JK2.out.mono ?_
          rintro e X2 ⟨rfl, hA2⟩
          have JK3 := hide (hA2.grows (by omega) (by omega) (by have := HBN.out; have := HRL.out k hlt; omega) (by have := HBN.out; omega))
          clear hA2 JK2 d2
          go_wp2_with fail
          refine JK3.out.mono ?_
          rintro e X3 ⟨rfl, N, M, q1, q2, hA3⟩
          have HF : Hid (N ≤ n + 2002 * (k + 1) ∧ M ≤ m + 2 * (k + 1) ∧ Ak w S gb hh HY vs vo tv wv (f3 r1 r2 r3) (f3 r10 r11 r12) (f3 sp sq sp) (f3 lp lq lp) ga gw go gv (k + 1) (k + 1) N M N M X3) := by
            have := HRL.out k hlt
            have := HRB.out
            exact ⟨by omega, by omega, hA3⟩
          clear hA3 JK3 q1 q2
          go_wp2_with fail
          go_roundw
          case rel => exact ⟨k + 1, N, M, by omega, rfl, HF.out⟩
          case measure => simp only [intOf]; omega
    · have t1 : ¬ (k : Int) < 3 := by omega
      obtain rfl : k = 3 := by omega
      have hA := HR.out.2.2
      have hbn : n' ≤ 100000 ∧ m' ≤ 100000 := by have := HNM.out; have := HR.out.1; have := HR.out.2.1; omega
      have JL := hide (hA.bm.looks hbn.1 hbn.2)
      have HE : Hid (∀ X, Below wr.heap.size wr X → (∃ N M, N ≤ n + 7000 ∧ M ≤ m + 10 ∧ Bm X gb (fun k => S k ∨ w.heap.size ≤ k) N M N M) ∧ Mv w X S) := fun X hX => by
        have hAX := hA.later hX (by omega) (by omega)
        have h0 := hAX.h0
        have hup := hAX.up
        refine ⟨⟨n', m', by have := HR.out.1; omega, by have := HR.out.2.1; omega, hAX.bm.mono (fun q _ c => ?_)⟩, hAX.mv.mono (fun q _ c => c.1)⟩
        rcases c with c | ⟨i, hi, c⟩ | ⟨i, hi, c⟩ | c
        · exact .inl c.1
        · have := hup 0 i (by omega) (by omega); have := c.1; exact .inr (by omega)
        · have := hup 0 (3 + i) (by omega) (by omega); have := c.1; exact .inr (by omega)
        · have := hup 0 6 (by omega) (by omega); have := hAX.hy.1; exact .inr (by omega)
      clear hA HR hbn
      go_wp2_with fail
      refine JL.out.mono ?_
      rintro e X ⟨rfl, bX⟩
      have HF := hide (HE.out X bX)
      clear bX JL HE
      go_wp2_with fail
      go_ret
      exact ⟨rfl, HF.out⟩
end Go.Proofs.Ythgjdmomcpcolaa
