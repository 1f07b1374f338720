import Derived.Test.YtmfoehaeejhlpaaGreatDoorGaAA
/-
  The reader: take, takeIf, open, leave, count.
-/
namespace Go.Proofs.YtmfoehaeejhlpaaGreatDoor
open Go.RowKit Yn
set_option maxRecDepth 100000
/-- What a function of the reader's hands back. -/
def Out {α : Type} (P : α → Value → World → Prop) (W : World) (B k : Nat) (ws : List ByteArray) (r : R α) (e : Ending) (W' : World) : Prop :=
  match r with
  | .ok x s' => ∃ v, e = .returned v ∧ P x v W' ∧ Rd W' B k ws s' ∧ Mv W W' (fun j => j = k)
  | .no a er => Pn W k a er e W'
  | .out => True
def isTok : Tok → Value → World → Prop := fun t v _ => v = tokV t
def isNone : Unit → Value → World → Prop := fun _ v _ => v = .tuple #[]
section
variable {W W' W2 : World} {B k : Nat} {ws : List ByteArray} {s : S}
theorem Pn.from {a er : Nat} {e : Ending} (h : Pn W' k a er e W2) (hm : Mv W W' (fun j => j = k)) : Pn W k a er e W2 := by
  obtain ⟨g, h1, h2, h3, h4⟩ := h
  exact ⟨g, h1, Nat.le_trans hm.size h2, h3, hm.trans h4 (fun _ _ e => e)⟩
theorem isAt_not_end {x : ByteArray} (hx : x ≠ bs []) (h : isAt s x = true) : (hd s).k ≠ 0 ∨ (hd s).t ≠ bs [] := by
  right
  unfold isAt at h
  rw [decide_eq_true_eq] at h
  rw [h]
  exact hx
set_option maxHeartbeats 1000000 in
theorem take_any (h : Rd W B k ws s) (x : ByteArray) (hx : x ≠ bs []) : Calls Tryz.prog 135 #[.pointer (some ⟨k, 0, none⟩), .string x] W (Out isTok W B k ws (take x s)) := by
  obtain ⟨w0, hw0⟩ : ∃ X, X = W.alloc (.cells #[.int .i64 0, .string ⟨#[]⟩, .int .i64 0] 73) := ⟨_, rfl⟩
  have B0 : Below W.heap.size W w0 := hw0 ▸ below_alloc W _
  have J1 := hide (isAt_any (h.later B0) x)
  have HW := hide hw0
  have HB0 := hide B0
  have hk := h.lt
  have H := hide h
  cases hb : isAt s x with
  | false =>
    have E : take x s = .no (hd s).a 100 := by unfold take; rw [hb]; rfl
    rw [E]
    rw [hb] at J1
    clear B0 h E hb hw0
    go_enter Tryz.func135, Tryz.ntmps135
    go_upto_region 1 with fail
    rw [← HW.out]
    go_wp2_with fail
    refine J1.out.mono ?_
    rintro e w1 ⟨rfl, hb1⟩
    have J2 := hide (fail_any (H.out.later (below_on HB0.out hb1)) 100)
    have HB1 := hide (below_on HB0.out hb1)
    clear hb1 J1
    go_wp2_with fail
    refine J2.out.mono ?_
    rintro e w2 hp
    have hp2 := hp.from (Mv.of_below HB1.out (fun j => j = k))
    obtain ⟨g, rfl, -⟩ := hp
    exact ⟨rfl, hp2⟩
  | true =>
    have E : take x s = .ok (hd s) (nx s) := by unfold take; rw [hb]; rfl
    have hne := isAt_not_end hx hb
    rw [E]
    rw [hb] at J1
    clear B0 h E hb
    obtain ⟨r0, hr0⟩ : ∃ r, r = W.heap.size := ⟨_, rfl⟩
    have HR0 := hide hr0
    go_enter Tryz.func135, Tryz.ntmps135
    go_upto_region 1 with fail
    rw [← HW.out, ← hr0]
    clear hw0 hr0
    go_wp2_with fail
    refine J1.out.mono ?_
    rintro e w1 ⟨rfl, hb1⟩
    have J2 := hide (next_any (H.out.later (below_on HB0.out hb1)) hne)
    have HB1 := hide (below_on HB0.out hb1)
    have hr1 : w1.heap[r0]? = some (.cells #[.int .i64 0, .string ⟨#[]⟩, .int .i64 0] 73 (0, 0)) := by
      have h0 : w0.heap[r0]? = some (.cells #[.int .i64 0, .string ⟨#[]⟩, .int .i64 0] 73 (0, 0)) := by rw [HW.out, HR0.out]; exact heap_alloc_new W _
      exact (hb1.block r0 (lt_of_block h0)).trans h0
    have HR1 := hide hr1
    clear hb1 J1 hr1
    go_wp2_with fail
    refine J2.out.mono ?_
    rintro e w2 ⟨rfl, hr2, hm2⟩
    have hkr : r0 ≠ k := by have := HR0.out; omega
    have h2 := hm2.at HR1.out hkr
    have y0 : w2.cell? ⟨r0, 0, none⟩ = some (.int .i64 0) := by rw [cell_of_row w2 r0 _ _ 73 (0, 0) h2]; rfl
    have y1 : w2.cell? ⟨r0, 1, none⟩ = some (.string ⟨#[]⟩) := by rw [cell_of_row w2 r0 _ _ 73 (0, 0) h2]; rfl
    have y2 : w2.cell? ⟨r0, 2, none⟩ = some (.int .i64 0) := by rw [cell_of_row w2 r0 _ _ 73 (0, 0) h2]; rfl
    have z : ∀ q, w2.frozen? ⟨r0, q, none⟩ = false := fun q => frozen_of_row w2 r0 q _ 73 h2
    have H2 := hide h2
    have HRd := hide hr2
    have HM2 := hide hm2
    generalize hd s = t at *
    unfold tokV
    clear h2 hr2 hm2 J2
    go_wp2_with fail
    have hm4 : Mv w2 (((w2.setCell ⟨r0, 0, none⟩ (.int .i64 (t.k : Int))).setCell ⟨r0, 1, none⟩ (.string t.t)).setCell ⟨r0, 2, none⟩ (.int .i64 (t.a : Int))) (fun j => j = r0) := (((Mv.refl w2 (fun j => j = r0)).set (g := r0) rfl _ _).set (g := r0) rfl _ _).set (g := r0) rfl _ _
    have hr4 : (((w2.setCell ⟨r0, 0, none⟩ (.int .i64 (t.k : Int))).setCell ⟨r0, 1, none⟩ (.string t.t)).setCell ⟨r0, 2, none⟩ (.int .i64 (t.a : Int))).heap[r0]? = some (.cells #[.int .i64 (t.k : Int), .string t.t, .int .i64 (t.a : Int)] 73 (0, 0)) := heap_setCell_same _ r0 2 _ 73 _ (heap_setCell_same _ r0 1 _ 73 _ (heap_setCell_same w2 r0 0 _ 73 _ H2.out))
    refine bodyPost_ret (v := tokV t) (res_tok rfl rfl hr4) rfl ⟨_, rfl, rfl, HRd.out.mv hm4 (fun j e => ?_), ((Mv.of_below HB1.out _).trans HM2.out (fun _ _ e => e)).trans hm4 (fun j hj e => ?_)⟩
    · have := HR0.out
      have := HRd.out.1
      omega
    · have := HR0.out
      omega
end
end Go.Proofs.YtmfoehaeejhlpaaGreatDoor

/-
  The reader: takeIf, open, leave, count.
-/
namespace Go.Proofs.YtmfoehaeejhlpaaGreatDoor
open Go.RowKit Yn
set_option maxRecDepth 100000
section
variable {W W' W2 : World} {B k : Nat} {ws : List ByteArray} {s : S}
theorem takeIf_any (h : Rd W B k ws s) (x : ByteArray) (hx : x ≠ bs []) : Calls Tryz.prog 162 #[.pointer (some ⟨k, 0, none⟩), .string x] W fun e W' => e = .returned (.bool (isAt s x)) ∧ Rd W' B k ws (if isAt s x then nx s else s) ∧ Mv W W' (fun j => j = k) := by
  have J1 := hide (isAt_any h x)
  have H := hide h
  cases hb : isAt s x with
  | false =>
    rw [hb] at J1
    clear h hb
    go_enter Tryz.func162, Tryz.ntmps162
    go_wp2_with fail
    refine J1.out.mono ?_
    rintro e w1 ⟨rfl, hb1⟩
    have HB1 := hide hb1
    clear hb1 J1
    go_wp2_with fail
    go_ret
    exact ⟨rfl, H.out.later HB1.out, Mv.of_below HB1.out _⟩
  | true =>
    have hne := isAt_not_end hx hb
    rw [hb] at J1
    clear h hb
    go_enter Tryz.func162, Tryz.ntmps162
    go_wp2_with fail
    refine J1.out.mono ?_
    rintro e w1 ⟨rfl, hb1⟩
    have J2 := hide (next_any (H.out.later hb1) hne)
    have HB1 := hide hb1
    clear hb1 J1
    go_wp2_with fail
    refine J2.out.mono ?_
    rintro e w2 ⟨rfl, hr2, hm2⟩
    have HR2 := hide hr2
    have HM2 := hide ((Mv.of_below HB1.out (fun j => j = k)).trans hm2 (fun _ _ e => e))
    clear hr2 hm2 J2
    go_wp2_with fail
    go_ret
    exact ⟨rfl, HR2.out, HM2.out⟩
theorem Rd.cells (h : Rd W B k ws s) : (W.cell? ⟨k, 2, none⟩ = some (.int .i64 (s.sy : Int)) ∧ W.cell? ⟨k, 3, none⟩ = some (.int .i64 (s.fu : Int)) ∧ W.cell? ⟨k, 4, none⟩ = some (.int .i64 (s.st : Int)) ∧ W.cell? ⟨k, 5, none⟩ = some (.int .i64 (s.de : Int))) ∧ ∀ q, W.frozen? ⟨k, q, none⟩ = false := by
  obtain ⟨h1, h2, h3, vt, vw, h4, -⟩ := h
  refine ⟨⟨?_, ?_, ?_, ?_⟩, fun q => frozen_of_row W k q _ 60 h4⟩ <;> rw [cell_of_row W k _ _ 60 (0, 0) h4] <;> rfl
theorem Rd.set_of (h : Rd W B k ws s) {q : Nat} {u : Value} (s' : S) (ht : s'.ts = s.ts) (hb : s'.sy ≤ 16 ∧ s'.fu ≤ 16 ∧ s'.st ≤ 200 ∧ s'.de ≤ 20) (hs : ∀ vt vw, (#[vt, vw, .int .i64 (s.sy : Int), .int .i64 (s.fu : Int), .int .i64 (s.st : Int), .int .i64 (s.de : Int)] : Array Value).setIfInBounds q u = #[vt, vw, .int .i64 (s'.sy : Int), .int .i64 (s'.fu : Int), .int .i64 (s'.st : Int), .int .i64 (s'.de : Int)]) : Rd (W.setCell ⟨k, q, none⟩ u) B k ws s' ∧ Mv W (W.setCell ⟨k, q, none⟩ u) (fun j => j = k) := by
  have hm : Mv W (W.setCell ⟨k, q, none⟩ u) (fun j => j = k) := (Mv.refl W (fun j => j = k)).set (g := k) rfl _ _
  obtain ⟨h1, h2, h3, vt, vw, h4, h5, h6, h7, h8⟩ := h
  have h5' : Tks (W.setCell ⟨k, q, none⟩ u) vt s'.ts := by
    rw [ht]
    exact h5.mv hm (fun j e e2 => by have := h6 j e; have : j = k := e2; omega)
  refine ⟨⟨h1, hb, by rw [ht]; exact h3, vt, vw, ?_, h5', h6, h7.mv hm (fun j e e2 => ?_), h8⟩, hm⟩
  · rw [heap_setCell_same W k q _ 60 u h4, hs]
  · have := h8 j e
    have : j = k := e2
    omega
theorem Rd.setDe (h : Rd W B k ws s) (d : Nat) (hd : d ≤ 20) : Rd (W.setCell ⟨k, 5, none⟩ (.int .i64 (d : Int))) B k ws { s with de := d } ∧ Mv W (W.setCell ⟨k, 5, none⟩ (.int .i64 (d : Int))) (fun j => j = k) := h.set_of { s with de := d } rfl ⟨h.2.1.1, h.2.1.2.1, h.2.1.2.2.1, hd⟩ (fun _ _ => rfl)
theorem Rd.setSy (h : Rd W B k ws s) (d : Nat) (hd : d ≤ 16) : Rd (W.setCell ⟨k, 2, none⟩ (.int .i64 (d : Int))) B k ws { s with sy := d } ∧ Mv W (W.setCell ⟨k, 2, none⟩ (.int .i64 (d : Int))) (fun j => j = k) := h.set_of { s with sy := d } rfl ⟨hd, h.2.1.2.1, h.2.1.2.2.1, h.2.1.2.2.2⟩ (fun _ _ => rfl)
theorem Rd.setFu (h : Rd W B k ws s) (d : Nat) (hd : d ≤ 16) : Rd (W.setCell ⟨k, 3, none⟩ (.int .i64 (d : Int))) B k ws { s with fu := d } ∧ Mv W (W.setCell ⟨k, 3, none⟩ (.int .i64 (d : Int))) (fun j => j = k) := h.set_of { s with fu := d } rfl ⟨h.2.1.1, hd, h.2.1.2.2.1, h.2.1.2.2.2⟩ (fun _ _ => rfl)
theorem Rd.setSt (h : Rd W B k ws s) (d : Nat) (hd : d ≤ 200) : Rd (W.setCell ⟨k, 4, none⟩ (.int .i64 (d : Int))) B k ws { s with st := d } ∧ Mv W (W.setCell ⟨k, 4, none⟩ (.int .i64 (d : Int))) (fun j => j = k) := h.set_of { s with st := d } rfl ⟨h.2.1.1, h.2.1.2.1, hd, h.2.1.2.2.2⟩ (fun _ _ => rfl)
theorem leave_any (h : Rd W B k ws s) (h1 : 1 ≤ s.de) : Calls Tryz.prog 164 #[.pointer (some ⟨k, 0, none⟩)] W fun e W' => e = .returned (.tuple #[]) ∧ Rd W' B k ws (leave s) ∧ Mv W W' (fun j => j = k) := by
  obtain ⟨⟨-, -, -, c5⟩, fz⟩ := h.cells
  have f5 := fz 5
  have hl := h.2.1.2.2.2
  have HS := hide (h.setDe (s.de - 1) (by omega))
  have t1 : IntKind.i64.wrap ((s.de : Int) - 1) = ((s.de - 1 : Nat) : Int) := by rw [IntKind.wrap_i64]; omega
  clear fz h
  go_enter Tryz.func164, Tryz.ntmps164
  go_wp2_with fail
  go_end0
  exact ⟨rfl, HS.out⟩
set_option maxHeartbeats 1000000 in
theorem open_any (h : Rd W B k ws s) (x : ByteArray) (hx : x ≠ bs []) : Calls Tryz.prog 161 #[.pointer (some ⟨k, 0, none⟩), .string x] W (Out isNone W B k ws (openS x s)) := by
  have J1 := hide (isAt_any h x)
  have H := hide h
  cases hb : isAt s x with
  | false =>
    have E : openS x s = .no (hd s).a 100 := by unfold openS; rw [hb]; rfl
    rw [E]
    rw [hb] at J1
    clear h hb E
    go_enter Tryz.func161, Tryz.ntmps161
    go_wp2_with fail
    refine J1.out.mono ?_
    rintro e w1 ⟨rfl, hb1⟩
    have J2 := hide (fail_any (H.out.later hb1) 100)
    have HB1 := hide hb1
    clear hb1 J1
    go_wp2_with fail
    refine J2.out.mono ?_
    rintro e w2 hp
    have hp2 := hp.from (Mv.of_below HB1.out (fun j => j = k))
    obtain ⟨g, rfl, -⟩ := hp
    exact ⟨rfl, hp2⟩
  | true =>
    have hne := isAt_not_end hx hb
    have hl := h.2.1.2.2.2
    rw [hb] at J1
    by_cases hd20 : s.de = 20
    · have E : openS x s = .no (hd s).a 101 := by unfold openS; rw [hb, if_pos hd20]; rfl
      rw [E]
      have t1 : ((s.de : Int) == 20) = true := by rw [beq_iff_eq]; omega
      clear h hb E
      go_enter Tryz.func161, Tryz.ntmps161
      go_wp2_with fail
      refine J1.out.mono ?_
      rintro e w1 ⟨rfl, hb1⟩
      have hr1 := H.out.later hb1
      obtain ⟨⟨-, -, -, c5⟩, fz⟩ := hr1.cells
      have J2 := hide (fail_any hr1 101)
      have HB1 := hide hb1
      clear hb1 J1 hr1 fz
      go_wp2_with fail
      refine J2.out.mono ?_
      rintro e w2 hp
      have hp2 := hp.from (Mv.of_below HB1.out (fun j => j = k))
      obtain ⟨g, rfl, -⟩ := hp
      exact ⟨rfl, hp2⟩
    · have E : openS x s = .ok () { nx s with de := s.de + 1 } := by unfold openS; rw [hb, if_neg hd20]; rfl
      rw [E]
      have t1 : ((s.de : Int) == 20) = false := by rw [beq_eq_false_iff_ne]; omega
      have t2 : IntKind.i64.wrap ((s.de : Int) + 1) = ((s.de + 1 : Nat) : Int) := by rw [IntKind.wrap_i64]; omega
      clear h hb E
      go_enter Tryz.func161, Tryz.ntmps161
      go_wp2_with fail
      refine J1.out.mono ?_
      rintro e w1 ⟨rfl, hb1⟩
      have hr1 := H.out.later hb1
      obtain ⟨⟨-, -, -, c5⟩, fz⟩ := hr1.cells
      have f5 := fz 5
      obtain ⟨q1, q2⟩ := hr1.setDe (s.de + 1) (by omega)
      have J2 := hide (next_any q1 hne)
      have HM2 := hide ((Mv.of_below hb1 (fun j => j = k)).trans q2 (fun _ _ e => e))
      rw [show ((s.de + 1 : Nat) : Int) = (s.de : Int) + 1 by omega] at J2 HM2
      clear hb1 J1 hr1 fz q1 q2
      go_wp2_with fail
      refine J2.out.mono ?_
      rintro e w2 ⟨rfl, hr2, hm2⟩
      have HR2 := hide hr2
      have HM3 := hide (HM2.out.trans hm2 (fun _ _ e => e))
      clear hr2 hm2 J2
      go_wp2_with fail
      go_end0
      exact ⟨_, rfl, rfl, HR2.out, HM3.out⟩
/-- One more of what is counted. -/
theorem count_any (h : Rd W B k ws s) (p : Addr) (n most : Nat) (hc : W.cell? p = some (.int .i64 (n : Int))) (hf : W.frozen? p = false) (hn : n ≤ 100000) (_hp : p.spot = none) : Calls Tryz.prog 133 #[.pointer (some ⟨k, 0, none⟩), .pointer (some p), .int .i64 (most : Int)] W fun e W' => if n = most then Pn W k (hd s).a 102 e W' else e = .returned (.tuple #[]) ∧ W' = W.setCell p (.int .i64 ((n + 1 : Nat) : Int)) := by
  by_cases hm : n = most
  · subst hm
    have J := hide (fail_any h 102)
    have t1 : ((n : Int) == (n : Int)) = true := by simp
    simp only [if_true]
    clear h
    go_enter Tryz.func133, Tryz.ntmps133
    go_wp2_with fail
    refine J.out.mono ?_
    rintro e w2 hp
    have hp2 := hp
    obtain ⟨g, rfl, -⟩ := hp
    exact ⟨rfl, hp2⟩
  · have t1 : ((n : Int) == (most : Int)) = false := by rw [beq_eq_false_iff_ne]; omega
    simp only [if_neg hm]
    clear h
    go_enter Tryz.func133, Tryz.ntmps133
    go_wp2_with fail
    go_end0
    exact ⟨rfl, rfl⟩
end
end Go.Proofs.YtmfoehaeejhlpaaGreatDoor

/-
  Whether a text is among others.
-/
namespace Go.Proofs.YtmfoehaeejhlpaaGreatDoor
open Go.RowKit Yn
set_option maxRecDepth 100000
def Sr (w : World) (v : Value) (l : List ByteArray) : Prop :=
  ∃ ao c, v = .slice ao l.length c ∧ l.length ≤ c ∧ c ≤ maxLen ∧ ∀ i (h : i < l.length), ∃ g o, ao = some ⟨g, o, none⟩ ∧ w.cell? ⟨g, o + i, none⟩ = some (.string l[i])
theorem text_inj {a b : ByteArray} (h : a.data.toList = b.data.toList) : a = b := by
  cases a
  cases b
  simp only [ByteArray.mk.injEq]
  exact Array.toList_inj.1 h
set_option maxHeartbeats 2000000 in
theorem index_any {w : World} {v : Value} {l : List ByteArray} (h : Sr w v l) (x : ByteArray) : Calls Tryz.prog 167 #[v, .string x] w fun e w' => (∃ i : Int, e = .returned (.int .i64 i) ∧ (0 ≤ i ↔ x ∈ l)) ∧ w' = w := by
  obtain ⟨ao, c, rfl, h1, h2, h3⟩ := h
  have hbig : c ≤ 9223372036854775807 := by unfold maxLen at h2; omega
  have H3 := hide h3
  clear h3 h2
  go_enter Tryz.func167, Tryz.ntmps167
  go_wp2_with fail
  go_loopw [8] (fun v8 W => ∃ i : Nat, i ≤ l.length ∧ v8 = .int .i64 (i : Int) ∧ Hid (x ∉ l.take i) ∧ Hid (W = w)) (fun v8 _ => l.length - (intOf v8).toNat)
  case atStart => exact ⟨0, Nat.zero_le _, rfl, by simp [Hid], rfl⟩
  case round =>
    obtain ⟨i, hil, rfl, HN, HW⟩ := hrel
    by_cases hlt : i < l.length
    · have t1 : (i : Int) < (l.length : Int) := by omega
      obtain ⟨g, o, rfl, e1⟩ := H3.out i hlt
      rw [← HW.out] at e1
      have hm1 : Hid (x ∉ l.take (i + 1) ↔ ¬ x = l[i]) := by
        unfold Hid
        rw [List.take_succ_eq_append_getElem hlt, List.mem_append, List.mem_singleton]
        have := HN.out
        constructor
        · intro h e; exact h (.inr e)
        · intro h e
          rcases e with e | e
          · exact this e
          · exact h e
      have hm2 : Hid (x = l[i] → x ∈ l) := fun e => e ▸ List.getElem_mem hlt
      generalize l[i] = y at *
      by_cases hxy : x = y
      · have HIN := hide (hm2.out hxy)
        subst hxy
        clear hm2 hm1
        go_wp2_with fail
        go_ret
        exact ⟨⟨_, rfl, ⟨fun _ => HIN.out, fun _ => by omega⟩⟩, HW.out⟩
      · have HNN := hide (hm1.out.2 hxy)
        have hb : (x.toList == y.toList) = false := by
          rw [beq_eq_false_iff_ne]
          intro e
          rw [ByteArray.toList_eq, ByteArray.toList_eq] at e
          exact hxy (text_inj e)
        clear hm1 hm2
        go_wp2_with fail
        refine ⟨⟨i + 1, by omega, by go_num, HNN, HW⟩, ?_⟩
        simp [intOf]
        omega
    · obtain rfl : i = l.length := by omega
      have t1 : ¬ (l.length : Int) < (l.length : Int) := by omega
      have hn := HN.out
      rw [List.take_length] at hn
      have HN2 := hide hn
      clear hn HN
      go_wp2_with fail
      go_ret
      exact ⟨⟨_, rfl, ⟨fun e => by omega, fun e => absurd e HN2.out⟩⟩, HW.out⟩
set_option maxHeartbeats 1000000 in
theorem contains_any {w : World} {v : Value} {l : List ByteArray} (h : Sr w v l) (x : ByteArray) [Decidable (x ∈ l)] : Calls Tryz.prog 144 #[v, .string x] w fun e w' => e = .returned (.bool (decide (x ∈ l))) ∧ w' = w := by
  have J := hide (index_any h x)
  obtain ⟨ao, c, rfl, -⟩ := h
  by_cases h0 : x ∈ l
  · rw [decide_eq_true h0]
    have J2 : Hid (Calls Tryz.prog 167 #[.slice ao l.length c, .string x] w fun e w' => (∃ i : Int, e = .returned (.int .i64 i) ∧ i ≥ 0) ∧ w' = w) := J.out.mono (fun _e _w' ⟨⟨i, e1, e2⟩, e3⟩ => ⟨⟨i, e1, e2.2 h0⟩, e3⟩)
    clear J h0
    go_enter Tryz.func144, Tryz.ntmps144
    go_wp2_with fail
    refine J2.out.mono ?_
    rintro e w' ⟨⟨i, rfl, t1⟩, rfl⟩
    go_wp2_with fail
    go_ret
    exact ⟨rfl, rfl⟩
  · rw [decide_eq_false h0]
    have J2 : Hid (Calls Tryz.prog 167 #[.slice ao l.length c, .string x] w fun e w' => (∃ i : Int, e = .returned (.int .i64 i) ∧ ¬ 0 ≤ i) ∧ w' = w) := J.out.mono (fun _e _w' ⟨⟨i, e1, e2⟩, e3⟩ => ⟨⟨i, e1, fun e => h0 (e2.1 e)⟩, e3⟩)
    clear J h0
    go_enter Tryz.func144, Tryz.ntmps144
    go_wp2_with fail
    refine J2.out.mono ?_
    rintro e w' ⟨⟨i, rfl, t1⟩, rfl⟩
    have t2 : decide (0 ≤ i) = false := decide_eq_false (by omega)
    go_wp2_with fail
    go_ret
    refine ⟨?_, rfl⟩
    simp
end Go.Proofs.YtmfoehaeejhlpaaGreatDoor
