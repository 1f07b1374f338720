import Derived.Test.YtfkhhplcogedmaaGreatDoorMgJ
/-
  Verify: comesBack: the walk.
-/
namespace Go.Proofs.YtfkhhplcogedmaaGreatDoor
open Go.RowKit
set_option maxRecDepth 100000
/-- Which places are seen, as a row. -/
def sb (n : Nat) (seen : Nat → Bool) : List Value := (List.range n).map fun x => Value.bool (seen x)
theorem sb_at {n x : Nat} {seen : Nat → Bool} (h : x < n) : (sb n seen)[x]? = some (.bool (seen x)) := by simp [sb, h]
theorem sb_set {n x : Nat} {seen : Nat → Bool} : (sb n seen).set x (.bool true) = sb n (fun y => seen y || decide (y = x)) := by
  apply List.ext_getElem?
  intro j
  rw [List.getElem?_set]
  by_cases hj : j < n
  · rw [sb_at hj, sb_at hj]
    by_cases e : x = j
    · subst e
      simp [sb, hj]
    · rw [if_neg e]
      simp
      intro c
      exact absurd c.symm e
  · have h1 : (sb n seen)[j]? = none := List.getElem?_eq_none (by simp [sb]; omega)
    have h2 : (sb n fun y => seen y || decide (y = x))[j]? = none := List.getElem?_eq_none (by simp [sb]; omega)
    rw [h1, h2]
    split
    · rw [if_neg (by simp [sb]; omega)]
    · rfl
theorem cbM_le (ls : List (List Nat)) (hlen : ∀ l ∈ ls, l.length ≤ 2000) (seen : Nat → Bool) : ∀ n, sumU n (fun x => if seen x then 0 else (Eg ls x).length + 1) ≤ n * 2001
  | 0 => by simp [sumU]
  | n + 1 => by
    rw [sumU_succ]
    have h1 := cbM_le ls hlen seen n
    have h2 : (Eg ls n).length ≤ 2000 := by
      by_cases c : n < ls.length
      · rw [Eg_at c]
        exact hlen _ (List.getElem_mem c)
      · unfold Eg
        rw [List.getD_eq_getElem?_getD, List.getElem?_eq_none (by omega)]
        simp
    have h3 : (if seen n then 0 else (Eg ls n).length + 1) ≤ 2001 := by split <;> omega
    omega
set_option maxHeartbeats 8000000 in
theorem comesback_any {w : World} {v : Value} {ls : List (List Nat)} {a : Nat} (h : Rr w v ls) (ha : a < ls.length) (hlt : ∀ l ∈ ls, ∀ y ∈ l, y < ls.length) (hn : ls.length ≤ 2000) (hlen : ∀ l ∈ ls, l.length ≤ 2000) : Calls Tryz.prog 50 #[v, .int .i64 (a : Int)] w fun e w' => (∃ b : Bool, e = .returned (.bool b) ∧ (b = true ↔ Cyc (Eg ls) a)) ∧ Below w.heap.size w w' := by
  have H := hide h
  have HLT : Hid (∀ x, ∀ y ∈ Eg ls x, y < ls.length) := fun x y hy => by
    by_cases c : x < ls.length
    · rw [Eg_at c] at hy
      exact hlt _ (List.getElem_mem c) y hy
    · unfold Eg at hy
      rw [List.getD_eq_getElem?_getD, List.getElem?_eq_none (by omega)] at hy
      simp at hy
  have HLE : Hid (∀ x (hx : x < ls.length), (ls[x]).length ≤ 2000) := fun x hx => hlen _ (List.getElem_mem hx)
  have HCM := hide (cbM_le ls hlen)
  obtain ⟨n, hn'⟩ : ∃ n, n = ls.length := ⟨_, rfl⟩
  have HN := hide hn'
  have HN2 := hide (show n ≤ 2000 by omega)
  have han : a < n := by omega
  have ha2 : (a : Int) < (n : Int) := by omega
  have hnb : (n : Int) ≤ 2000 := by omega
  obtain ⟨ao, co, rs, rfl, hc1, hc2, -, -, -⟩ := h
  obtain ⟨g, o, r0, rfl, d0, hr0⟩ := H.out.nth ha
  rw [← hn'] at H HLT hc1 ⊢
  have JC : Hid (∀ W, Below w.heap.size w W → Calls Tryz.prog 77 #[r0] W fun e w' => ∃ v', e = .returned v' ∧ w'.ownsRow W.heap.size 3 1 v' (Eg ls a).length (nz (Eg ls a)) ∧ Below W.heap.size W w') := fun W hW => by
    rw [Eg_at ha]
    exact clone_n (hr0.later hW) (by have := HLE.out a ha; omega)
  have HC0 : Hid (∀ W, Below w.heap.size w W → W.cell? ⟨g, o + a, none⟩ = some r0) := fun W hW => (Mv.of_below hW (fun _ => False)).cell d0 id
  obtain ⟨i0, hi0, hz0, hz1, hz2⟩ := info_parts infoBool
  clear hr0 d0 hlt hn hlen hn' ha
  go_enter Tryz.func50, Tryz.ntmps50
  go_wp2_with (at_make; refine wpList_make_full _ rfl _ _ 126 rfl w.heap.size 4 i0 (.bool false) 1 Tryz.underlying126 hi0 hz0 hz1 .i64 .i64 _ _ n rfl rfl ?c1 ?c2 ?c3 ?c4 ?c5 ?_)
  case c1 => rfl
  case c2 => rfl
  case c3 => have := HN2.out; rw [hz2]; omega
  case c4 => have := HN2.out; unfold maxLen; omega
  case c5 => omega
  intro w1 hown hgrow
  rw [toList_madeCells_one] at hown
  have B1 : Hid (Below w.heap.size w w1) := (Below.refl _ w).grown hgrow (Nat.le_refl _) (fun k e => by cases e)
  have H1 : Hid (w1.ownsRow w.heap.size 4 1 (.slice (some ⟨w.heap.size, 0, none⟩) n n) n (sb n (fun _ => false))) := by
    have e : sb n (fun _ => false) = List.replicate n (.bool false) := by
      apply List.ext_getElem
      · simp [sb]
      · intro i h1 h2
        simp [sb]
    unfold Hid
    rw [e]
    exact hown
  have d1 := HC0.out w1 B1.out
  obtain ⟨gs, hgs⟩ : ∃ x, x = w.heap.size := ⟨_, rfl⟩
  have HGS := hide hgs
  rw [← hgs]
  rw [← hgs] at H1
  clear hown hgrow hgs
  go_wp2_with fail
  refine (JC.out w1 B1.out).mono ?_
  rintro e w2 ⟨v6, rfl, r2, b2⟩
  obtain ⟨a6, c6, hv6⟩ := own_len r2
  have Q0 : Hid (Cb (Eg ls) n a (fun _ => false) (Eg ls a) ∧ w2.ownsRow gs 4 1 (.slice (some ⟨gs, 0, none⟩) n n) n (sb n (fun _ => false)) ∧ w2.ownsRow gs 3 1 v6 (Eg ls a).length (nz (Eg ls a)) ∧ Below w.heap.size w w2 ∧ cbM (Eg ls) n (fun _ => false) (Eg ls a) ≤ 4004000) := by
    refine ⟨Cb.init (HLT.out a), ?_, own_lower r2 (by rw [HGS.out]; exact B1.out.size), below_on B1.out b2, ?_⟩
    rotate_left
    · have h1 := HCM.out (fun _ => false) n
      have h2 := HN2.out
      have h3 : (Eg ls a).length ≤ 2000 := by
        have h4 : a < ls.length := by have := HN.out; omega
        rw [Eg_at h4]
        exact HLE.out a h4
      exact Nat.le_trans (Nat.add_le_add h1 h3) (by omega)
    exact own_later H1.out b2
  clear r2 b2 d1 H1 B1 JC
  subst hv6
  go_wp2_with fail
  go_loopg [6, 7] (cbM (Eg ls) n (fun _ => false) (Eg ls a)) (fun q v6 _ W => ∃ (seen : Nat → Bool) (op : List Nat), q = cbM (Eg ls) n seen op ∧ Hid (Cb (Eg ls) n a seen op ∧ W.ownsRow gs 4 1 (.slice (some ⟨gs, 0, none⟩) n n) n (sb n seen) ∧ W.ownsRow gs 3 1 v6 op.length (nz op) ∧ Below w.heap.size w W ∧ cbM (Eg ls) n seen op ≤ 4004000))
  case atStart => exact ⟨_, _, rfl, Q0.out⟩
  case round =>
    obtain ⟨seen, op, rfl, HR⟩ := hrel
    clear Q0
    obtain ⟨r1, r2, r3, r4, r5⟩ := HR.out
    by_cases c0 : op = []
    · subst c0
      obtain ⟨a6, c6, rfl⟩ := own_len r3
      clear r2 r3
      go_wp2_with fail
      go_ret
      exact ⟨⟨false, rfl, by simpa using Cb.none r1⟩, r4⟩
    · obtain ⟨pre, x, hop⟩ : ∃ pre x, op = pre ++ [x] := ⟨op.dropLast, op.getLast c0, (List.dropLast_concat_getLast c0).symm⟩
      subst hop
      rw [List.length_append, List.length_singleton] at r3
      obtain ⟨m, hm⟩ : ∃ m, m = pre.length := ⟨_, rfl⟩
      rw [← hm] at r3
      obtain ⟨g6, c6, rfl, hc6, hc7⟩ := own_form r3 (by omega)
      have hx : x < n := r1.lt x (by simp)
      have d6 : wr.cell? ⟨g6, m, none⟩ = some (.int .i64 (x : Int)) := by
        rw [r3.cellAt m (by omega), nz_at _ _ (by simp; omega)]
        simp [hm]
      have ds : wr.cell? ⟨gs, x, none⟩ = some (.bool (seen x)) := by rw [r2.cellAt x (by omega), sb_at hx]
      have df := r2.frozenAt x
      have CUT : Hid (wr.ownsRow gs 3 1 (.slice (some ⟨g6, 0, none⟩) m c6) m (nz pre)) := by
        have := own_cut2 r3 (k := m) (by omega)
        have e : (nz (pre ++ [x])).take m = nz pre := by
          unfold nz
          rw [List.map_append, hm, List.take_left' (by simp)]
        rwa [e] at this
      have AP := hide (own_ap2 r2 CUT.out (by decide))
      have R1 := hide r1
      have R2 := hide r2
      have R4 := hide r4
      have R5 := hide r5
      have HM := hide hm
      have hm5 : m ≤ 4004000 := by unfold cbM at r5; simp at r5; omega
      have t1 : (m : Int) + 1 ≤ 9223372036854775807 := by omega
      have t2 : (x : Int) < (n : Int) := by omega
      clear r1 r2 r3 r4 r5 HR hm c0
      by_cases cx : x = a
      · subst cx
        go_wp2_with fail
        go_ret
        exact ⟨⟨true, rfl, by simpa using Cb.found R1.out⟩, R4.out⟩
      · have f1 : ((x : Int) == (a : Int)) = false := beq_eq_false_iff_ne.2 (by omega)
        have CX := hide cx
        clear cx
        by_cases cs : seen x = true
        · rw [cs] at ds
          have CS := hide cs
          clear cs
          go_wp2_with fail
          go_roundg (cbM (Eg ls) n seen pre)
          case measure => exact cbM_known
          case rel => exact ⟨seen, pre, rfl, Cb.known R1.out CS.out, R2.out, HM.out ▸ CUT.out, R4.out, Nat.le_trans (Nat.le_of_lt cbM_known) R5.out⟩
        · have cs' : seen x = false := by simpa using cs
          rw [cs'] at ds
          have CS := hide cs'
          clear cs cs'
          obtain ⟨gx, ox, rx, ex, dx, hrx⟩ := H.out.nth (i := x) (by have := HN.out; omega)
          simp only [Option.some.injEq, Addr.mk.injEq, and_true] at ex
          obtain ⟨rfl, rfl⟩ := ex
          have hgl : g < w.heap.size := World.block_lt_of_cell? w _ dx
          have B5 : Hid (Below w.heap.size w (wr.setCell ⟨gs, x, none⟩ (.bool true))) := R4.out.grown (R2.out.stored x (.bool true)).2 R4.out.size (fun k e => by cases e; have := HGS.out; omega)
          have O5 : Hid ((wr.setCell ⟨gs, x, none⟩ (.bool true)).ownsRow gs 4 1 (.slice (some ⟨gs, 0, none⟩) n n) n (sb n (fun y => seen y || decide (y = x)))) := by
            have := (R2.out.stored x (.bool true)).1
            rw [sb_set] at this
            exact this
          have P5 : Hid ((wr.setCell ⟨gs, x, none⟩ (.bool true)).ownsRow gs 3 1 (.slice (some ⟨g6, 0, none⟩) m c6) m (nz pre)) := own_set CUT.out (fun e => AP.out gs rfl e)
          go_upto_region 10 with fail
          obtain ⟨W5, hW5⟩ : ∃ W5, W5 = wr.setCell ⟨gs, x, none⟩ (.bool true) := ⟨_, rfl⟩
          rw [← hW5] at B5 O5 P5 ⊢
          have dx5 : W5.cell? ⟨g, o + x, none⟩ = some rx := (Mv.of_below B5.out (fun _ => False)).cell dx id
          have hrx5 := hide (hrx.later B5.out)
          clear hW5 ds d6 df dx hrx
          go_wp2_with (at_builtin; refine appendR rfl _ _ rfl gs _ m (nz pre) rfl P5.out rx _ rfl hrx5.out ?b1 ?b2 ?_)
          case b1 =>
            have := HLE.out x (by have := HN.out; omega)
            omega
          case b2 =>
            have := HGS.out
            have := B5.out.size
            omega
          intro v7 w7 o7 gr7
          have hl7 : m + (ls[x]'(by have := HN.out; omega)).length = (pre ++ Eg ls x).length := by
            rw [Eg_at (by have := HN.out; omega), List.length_append, HM.out]
          have Q7 : Hid (Cb (Eg ls) n a (fun y => seen y || decide (y = x)) (pre ++ Eg ls x) ∧ w7.ownsRow gs 4 1 (.slice (some ⟨gs, 0, none⟩) n n) n (sb n (fun y => seen y || decide (y = x))) ∧ w7.ownsRow gs 3 1 v7 (pre ++ Eg ls x).length (nz (pre ++ Eg ls x)) ∧ Below w.heap.size w w7 ∧ cbM (Eg ls) n (fun y => seen y || decide (y = x)) (pre ++ Eg ls x) ≤ 4004000) := by
            refine ⟨Cb.new R1.out CX.out (HLT.out x), own_kept O5.out gr7 (fun k h1 h2 => AP.out k h1 h2), ?_, B5.out.grown gr7 B5.out.size (fun k e => ?_), Nat.le_trans (Nat.le_of_lt (cbM_new hx CS.out)) R5.out⟩
            · rw [← hl7]
              have : nz (pre ++ Eg ls x) = nz pre ++ nz (ls[x]'(by have := HN.out; omega)) := by
                rw [Eg_at (by have := HN.out; omega)]
                simp [nz]
              rw [this]
              exact o7
            · have h1 := HGS.out
              have h2 := own_ge P5.out
              have h3 : g6 = k := by simpa [Value.ownBlock] using e
              omega
          clear o7 gr7 hl7
          go_wp2_with fail
          go_roundg (cbM (Eg ls) n (fun y => seen y || decide (y = x)) (pre ++ Eg ls x))
          case measure => exact cbM_new hx CS.out
          case rel => exact ⟨_, _, rfl, Q7.out⟩
end Go.Proofs.YtfkhhplcogedmaaGreatDoor

/-
  Verify: stepless.
-/
namespace Go.Proofs.YtfkhhplcogedmaaGreatDoor
open Go.RowKit
set_option maxRecDepth 100000
/-- The ways on of an instruction, but of those that count a step. -/
def stlI (c : List Ins) (p : Nat) : List Nat := if (iat c p).op ≠ 24 ∧ (iat c p).op ≠ 21 then onwI c p else []
/-- Lists that are owned, each of its own. -/
structure Sx (W : World) (N gs n : Nat) (ls : List (List Nat)) (rs : List Value) : Prop where
  row : W.ownsRow N 36 1 (.slice (some ⟨gs, 0, none⟩) n n) n rs
  len : ls.length = n
  own : ∀ i (h1 : i < rs.length) (h2 : i < ls.length), W.ownsRow N 3 1 rs[i] (ls[i]).length (nz ls[i])
theorem Sx.rl {W : World} {N gs n : Nat} {ls : List (List Nat)} {rs : List Value} (h : Sx W N gs n ls rs) : rs.length = n := by
  have := h.row.1
  omega
theorem Sx.later {W W' : World} {N gs n : Nat} {ls : List (List Nat)} {rs : List Value} (h : Sx W N gs n ls rs) (hb : Below W.heap.size W W') : Sx W' N gs n ls rs :=
  ⟨own_later h.row hb, h.len, fun i h1 h2 => own_later (h.own i h1 h2) hb⟩
theorem Sx.put {W : World} {N gs n p : Nat} {ls : List (List Nat)} {rs : List Value} {v : Value} {l : List Nat} (h : Sx W N gs n ls rs) (hv : W.ownsRow N 3 1 v l.length (nz l)) : Sx (W.setCell ⟨gs, p, none⟩ v) N gs n (ls.set p l) (rs.set p v) where
  row := (h.row.stored p v).1
  len := by rw [List.length_set]; exact h.len
  own := fun i h1 h2 => by
    rw [List.length_set] at h1 h2
    have hap : ∀ {u : Value} {m : Nat} {xs : List Value}, W.ownsRow N 3 1 u m xs → (W.setCell ⟨gs, p, none⟩ v).ownsRow N 3 1 u m xs := fun hu => own_set hu (fun e => own_ap2 h.row hu (by decide) gs rfl e)
    by_cases e : p = i
    · subst e
      simp only [List.getElem_set_self]
      exact hap hv
    · simp only [List.getElem_set_ne e]
      exact hap (h.own i h1 h2)
theorem own_rn0 {W : World} {N : Nat} {v : Value} {l : List Nat} (h : W.ownsRow N 3 1 v l.length (nz l)) : Rn W v l := by
  obtain ⟨ao, c, rfl⟩ := own_len h
  obtain ⟨h1, h2⟩ := own_cap h
  refine ⟨ao, c, rfl, h1, h2, fun h0 => ?_⟩
  obtain ⟨g, c', e, -, -⟩ := own_form h h0
  simp only [Value.slice.injEq, true_and] at e
  obtain ⟨rfl, rfl⟩ := e
  refine ⟨g, 0, rfl, fun i hi => ?_⟩
  rw [Nat.zero_add, h.cellAt i (by omega), nz_at l i hi]
theorem Sx.rr {W : World} {N gs n : Nat} {ls : List (List Nat)} {rs : List Value} (h : Sx W N gs n ls rs) : Rr W (.slice (some ⟨gs, 0, none⟩) n n) ls := by
  obtain ⟨h1, h2⟩ := own_cap h.row
  refine ⟨_, n, rs, by rw [h.len], by rw [h.len]; exact h1, h2, by rw [h.rl, h.len], fun _ => ⟨gs, 0, rfl, fun i hi => ?_⟩, fun i a b => own_rn0 (h.own i a b)⟩
  rw [Nat.zero_add, h.row.cellAt i (by have := h.rl; omega), List.getElem?_eq_getElem hi]
/-- What stands there behind j rounds. -/
def stl (c : List Ins) (j : Nat) : List (List Nat) := (List.range c.length).map fun i => if i < j then stlI c i else []
theorem stl_set {c : List Ins} {j : Nat} : (stl c j).set j (stlI c j) = stl c (j + 1) := by
  apply List.ext_getElem
  · simp [stl]
  · intro i h1 h2
    simp [stl] at h1 h2
    by_cases e : j = i
    · subst e
      simp [stl]
    · rw [List.getElem_set_ne e]
      simp only [stl, List.getElem_map, List.getElem_range]
      by_cases c : i < j
      · rw [if_pos c, if_pos (by omega)]
      · rw [if_neg c, if_neg (by omega)]
theorem stl_skip {c : List Ins} {j : Nat} (h : stlI c j = []) : stl c (j + 1) = stl c j := by
  apply List.ext_getElem
  · simp [stl]
  · intro i h1 h2
    simp only [stl, List.getElem_map, List.getElem_range]
    by_cases c1 : i < j
    · rw [if_pos c1, if_pos (by omega)]
    · rw [if_neg c1]
      by_cases e : i = j
      · subst e
        rw [if_pos (by omega), h]
      · rw [if_neg (by omega)]
theorem infoL : (Tryz.prog.info? 36).map (fun i => (i.zero, i.size, i.bytes)) = some (some (.slice none 0 0), 1, 24) := by kernel_rfl
end Go.Proofs.YtfkhhplcogedmaaGreatDoor

/-
  Verify: stepless: the walk.
-/
namespace Go.Proofs.YtfkhhplcogedmaaGreatDoor
open Go.RowKit
set_option maxRecDepth 100000
set_option maxHeartbeats 8000000 in
theorem stepless_any {Q : Nat → Prop} {w : World} {vc vf : Value} {c : List Ins} (h : Il Q w vc c) (hf : ∃ a n c, vf = .slice a n c) (hn : c.length ≤ 2000) : Calls Tryz.prog 52 #[.agg #[vc, vf]] w fun e w' => ∃ gs rs, e = .returned (.slice (some ⟨gs, 0, none⟩) c.length c.length) ∧ Sx w' w.heap.size gs c.length (stl c c.length) rs ∧ Below w.heap.size w w' := by
  have JO : Hid (∀ W p, Below w.heap.size w W → p < c.length → Calls Tryz.prog 78 #[.agg #[vc, vf], .int .i64 (p : Int)] W fun e w' => ∃ v, e = .returned v ∧ w'.ownsRow W.heap.size 3 1 v (onwI c p).length (nz (onwI c p)) ∧ Below W.heap.size W w') := fun W p hW hp => onward_any (h.later hW) hf p hp
  have HI := hide h
  obtain ⟨ao, co, rfl, h1, h2⟩ := h.at
  obtain ⟨af, nf, cf, rfl⟩ := hf
  obtain ⟨i0, hi0, hz0, hz1, hz2⟩ := info_parts infoL
  have HS0 : Hid (List.replicate c.length (Value.slice none 0 0) = List.replicate c.length (Value.slice none 0 0)) := rfl
  obtain ⟨n, hnn⟩ : ∃ n, n = c.length := ⟨_, rfl⟩
  have HN := hide hnn
  have HN2 : Hid (n ≤ 2000) := by unfold Hid; omega
  have hnb : (n : Int) ≤ 2000 := by omega
  obtain ⟨w0, hw0⟩ : ∃ X, X = w.alloc (.cells #[.slice ao c.length co, .slice af nf cf] 80) := ⟨_, rfl⟩
  have B0 : Hid (Below w.heap.size w w0) := by unfold Hid; rw [hw0]; exact below_alloc w _
  have HB0 : Hid (w0.heap[w.heap.size]? = some (.cells #[.slice ao n co, .slice af nf cf] 80 (0, 0))) := by unfold Hid; rw [hw0, hnn]; exact heap_alloc_new w _
  have HC : Hid (∀ (W : World), W.heap[w.heap.size]? = some (.cells #[.slice ao n co, .slice af nf cf] 80 (0, 0)) → W.cell? ⟨w.heap.size, 0, none⟩ = some (.slice ao n co) ∧ W.cell? ⟨w.heap.size, 1, none⟩ = some (.slice af nf cf)) := fun W hb2 => ⟨by rw [cell_of_row _ _ _ _ 80 (0, 0) hb2]; rfl, by rw [cell_of_row _ _ _ _ 80 (0, 0) hb2]; rfl⟩
  obtain ⟨gw, hgw⟩ : ∃ g, g = w.heap.size := ⟨_, rfl⟩
  have HGW := hide hgw
  rw [← hnn] at JO HI h1 hw0 ⊢
  clear h hn hnn
  go_enter Tryz.func52, Tryz.ntmps52
  go_upto_region 1 with fail
  rw [← hw0, ← hgw]
  rw [← hgw] at HC HB0
  obtain ⟨d0, d1⟩ := HC.out w0 HB0.out
  clear hw0 hgw
  go_wp2_with (at_make; refine wpList_make_full _ rfl _ _ 88 rfl w.heap.size 36 i0 (.slice none 0 0) 1 Tryz.underlying88 hi0 hz0 hz1 .i64 .i64 _ _ n rfl rfl ?c1 ?c2 ?c3 ?c4 ?c5 ?_)
  case c1 => rfl
  case c2 => rfl
  case c3 => have := HN2.out; omega
  case c4 => have := HN2.out; unfold maxLen; omega
  case c5 => exact B0.out.size
  intro w1 hown hgrow
  rw [toList_madeCells_one] at hown
  have B1 : Hid (Below w.heap.size w w1) := B0.out.grown hgrow B0.out.size (fun k e => by cases e)
  have HB1 : Hid (w1.heap[gw]? = some (.cells #[.slice ao n co, .slice af nf cf] 80 (0, 0))) := (hgrow.block gw (lt_of_block HB0.out) (by simp)).trans HB0.out
  have hgs : gw < w0.heap.size := lt_of_block HB0.out
  obtain ⟨gs, hgs'⟩ : ∃ g, g = w0.heap.size := ⟨_, rfl⟩
  rw [← hgs'] at hown hgs ⊢
  have Q0 : Hid (Sx w1 w.heap.size gs n (stl c 0) (List.replicate n (.slice none 0 0)) ∧ w1.heap[gw]? = some (.cells #[.slice ao n co, .slice af nf cf] 80 (0, 0)) ∧ Below w.heap.size w w1) := by
    refine ⟨⟨hown, by rw [HN.out]; simp [stl], fun i a b => ?_⟩, HB1.out, B1.out⟩
    simp [stl, nz]
    exact World.ownsRow_nil _ _ _ _
  obtain ⟨d2, d3⟩ := HC.out w1 HB1.out
  clear hown hgrow d0 d1 hgs' HS0
  go_wp2_with fail
  clear d2 d3
  go_loopw [13] (fun v13 W => ∃ i : Nat, i ≤ n ∧ v13 = .int .i64 (i : Int) ∧ ∃ rs, Hid (Sx W w.heap.size gs n (stl c i) rs ∧ W.heap[gw]? = some (.cells #[.slice ao n co, .slice af nf cf] 80 (0, 0)) ∧ Below w.heap.size w W)) (fun v13 _ => n - (intOf v13).toNat)
  case atStart => exact ⟨0, Nat.zero_le _, rfl, _, Q0.out⟩
  case round =>
    obtain ⟨i, hi, rfl, rs, HR⟩ := hrel
    clear Q0
    by_cases hlt : i < n
    · have t1 : (i : Int) < (n : Int) := by omega
      obtain ⟨g, o, rfl, hq, e1, e2, -, -⟩ := (HI.out.later HR.out.2.2).nth (k := i) (by have := HN.out; omega)
      obtain ⟨d0, d1⟩ := HC.out wr HR.out.2.1
      have hil : i < c.length := by have := HN.out; omega
      have HSI : Hid (stlI c i = if c[i].op ≠ 24 ∧ c[i].op ≠ 21 then onwI c i else []) := by
        unfold Hid stlI
        rw [iat_eq hil]
      obtain ⟨op, hop⟩ : ∃ x, x = c[i].op := ⟨_, rfl⟩
      obtain ⟨av, hav⟩ : ∃ x, x = c[i].a := ⟨_, rfl⟩
      rw [← hop] at e1 HSI
      rw [← hav] at e2
      clear hop hav
      go_upto_region 5 with fail
      obtain ⟨w5, hw5⟩ : ∃ X, X = wr.alloc (.cells #[.int .i64 op, .int .i64 av] 28) := ⟨_, rfl⟩
      have b5 : Below wr.heap.size wr w5 := by rw [hw5]; exact below_alloc _ _
      have hb5 : w5.heap[wr.heap.size]? = some (.cells #[.int .i64 op, .int .i64 av] 28 (0, 0)) := by rw [hw5]; exact heap_alloc_new wr _
      obtain ⟨gi, hgi⟩ : ∃ x, x = wr.heap.size := ⟨_, rfl⟩
      rw [← hw5, ← hgi]
      have k1 : w5.cell? ⟨gi, 0, none⟩ = some (.int .i64 op) := by rw [hgi, cell_of_row _ _ _ _ 28 (0, 0) hb5]; rfl
      have R5 : Hid (Sx w5 w.heap.size gs n (stl c i) rs ∧ w5.heap[gw]? = some (.cells #[.slice (some ⟨g, o, none⟩) n co, .slice af nf cf] 80 (0, 0)) ∧ Below w.heap.size w w5) := ⟨HR.out.1.later b5, (b5.block _ (lt_of_block HR.out.2.1)).trans HR.out.2.1, below_on HR.out.2.2 b5⟩
      clear HR e1 e2 d0 d1 hw5 b5 hb5 hgi
      obtain ⟨d0, d1⟩ := HC.out w5 R5.out.2.1
      by_cases c24 : op = 24
      · subst c24
        have HE : Hid (stl c (i + 1) = stl c i) := stl_skip (by rw [HSI.out]; simp)
        go_wp2_with fail
        go_roundw
        case rel => exact ⟨i + 1, by omega, rfl, rs, by rw [HE.out]; exact R5.out⟩
        case measure => simp only [intOf]; omega
      · have f24 : (op == 24) = false := beq_eq_false_iff_ne.2 c24
        by_cases c21 : op = 21
        · subst c21
          have HE : Hid (stl c (i + 1) = stl c i) := stl_skip (by rw [HSI.out]; simp)
          go_wp2_with fail
          go_roundw
          case rel => exact ⟨i + 1, by omega, rfl, rs, by rw [HE.out]; exact R5.out⟩
          case measure => simp only [intOf]; omega
        · have f21 : (op == 21) = false := beq_eq_false_iff_ne.2 c21
          have g21 : (op != 21) = true := by simp [c21]
          have g24 : (op != 24) = true := by simp [c24]
          have HE : Hid (stlI c i = onwI c i) := HSI.out.trans (if_pos ⟨c24, c21⟩)
          have J := hide (JO.out w5 i R5.out.2.2 (by have := HN.out; omega))
          go_wp2_with fail
          refine J.out.mono ?_
          rintro e w6 ⟨v6, rfl, r6, b6⟩
          have S6 := hide (R5.out.1.later b6)
          have hb6 : w6.heap[gw]? = some (.cells #[.slice (some ⟨g, o, none⟩) n co, .slice af nf cf] 80 (0, 0)) := (b6.block _ (lt_of_block R5.out.2.1)).trans R5.out.2.1
          have B6 := hide (below_on R5.out.2.2 b6)
          have k6 : ∃ u, w6.cell? ⟨gs, i, none⟩ = some u := by
            rw [S6.out.row.cellAt i (by omega)]
            exact ⟨_, List.getElem?_eq_getElem (by have := S6.out.rl; omega)⟩
          obtain ⟨u6, k6⟩ := k6
          have f6 := S6.out.row.frozenAt i
          have R7 : Hid (Sx (w6.setCell ⟨gs, i, none⟩ v6) w.heap.size gs n (stl c (i + 1)) (rs.set i v6) ∧ (w6.setCell ⟨gs, i, none⟩ v6).heap[gw]? = some (.cells #[.slice (some ⟨g, o, none⟩) n co, .slice af nf cf] 80 (0, 0)) ∧ Below w.heap.size w (w6.setCell ⟨gs, i, none⟩ v6)) := by
            refine ⟨?_, (heap_setCell_other w6 ⟨gs, i, none⟩ gw v6 (by show gw ≠ gs; omega)).trans hb6, B6.out.setCell (by show w.heap.size ≤ gs; have := HGW.out; omega) v6⟩
            rw [← stl_set, HE.out]
            exact S6.out.put (own_lower r6 R5.out.2.2.size)
          obtain ⟨a6, c6, rfl⟩ := own_len r6
          clear r6 b6 hb6 d0 d1 k1
          go_wp2_with fail
          go_roundw
          case rel => exact ⟨i + 1, by omega, rfl, _, R7.out⟩
          case measure => simp only [intOf]; omega
    · have hin : i = n := by omega
      subst hin
      go_wp2_with fail
      go_ret
      exact ⟨gs, rs, rfl, HN.out ▸ HR.out.1, HR.out.2.2⟩
end Go.Proofs.YtfkhhplcogedmaaGreatDoor
