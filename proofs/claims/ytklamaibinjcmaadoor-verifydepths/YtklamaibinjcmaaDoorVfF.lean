/-
  Verify: comesBack: the walk.
-/
import Derived.Test.YtklamaibinjcmaaDoorMgF
namespace Go.Proofs.YtklamaibinjcmaaDoor
open Go.RowKit
set_option maxRecDepth 100000
/-- Which places are seen, as a row. -/
def sb (n : Nat) (seen : Nat → Bool) : List Value := (List.range n).map fun x => Value.bool (seen x)
theorem sb_at {n x : Nat} {seen : Nat → Bool} (h : x < n) : (sb n seen)[x]? = some (.bool (seen x)) := by simp [sb, h]
theorem sb_set {n x : Nat} {seen : Nat → Bool} : (sb n seen).set x (.bool true) = sb n (fun y => seen y || decide (y = x)) := by
  apply List.ext_getElem?
  intro j
  rw [List.getElem?_set]
  by_cases hj : j < n
  · rw [sb_at hj, sb_at hj]
    by_cases e : x = j
    · subst e
      simp [sb, hj]
    · rw [if_neg e]
      simp
      intro c
      exact absurd c.symm e
  · have h1 : (sb n seen)[j]? = none := List.getElem?_eq_none (by simp [sb]; omega)
    have h2 : (sb n fun y => seen y || decide (y = x))[j]? = none := List.getElem?_eq_none (by simp [sb]; omega)
    rw [h1, h2]
    split
    · rw [if_neg (by simp [sb]; omega)]
    · rfl
theorem cbM_le (ls : List (List Nat)) (hlen : ∀ l ∈ ls, l.length ≤ 2000) (seen : Nat → Bool) : ∀ n, sumU n (fun x => if seen x then 0 else (Eg ls x).length + 1) ≤ n * 2001
  | 0 => by simp [sumU]
  | n + 1 => by
    rw [sumU_succ]
    have h1 := cbM_le ls hlen seen n
    have h2 : (Eg ls n).length ≤ 2000 := by
      by_cases c : n < ls.length
      · rw [Eg_at c]
        exact hlen _ (List.getElem_mem c)
      · unfold Eg
        rw [List.getD_eq_getElem?_getD, List.getElem?_eq_none (by omega)]
        simp
    have h3 : (if seen n then 0 else (Eg ls n).length + 1) ≤ 2001 := by split <;> omega
    omega
set_option maxHeartbeats 8000000 in
theorem comesback_any {w : World} {v : Value} {ls : List (List Nat)} {a : Nat} (h : Rr w v ls) (ha : a < ls.length) (hlt : ∀ l ∈ ls, ∀ y ∈ l, y < ls.length) (hn : ls.length ≤ 2000) (hlen : ∀ l ∈ ls, l.length ≤ 2000) : Calls Tryd.prog 56 #[v, .int .i64 (a : Int)] w fun e w' => (∃ b : Bool, e = .returned (.bool b) ∧ (b = true ↔ Cyc (Eg ls) a)) ∧ Below w.heap.size w w' := by
  have H := hide h
  have HLT : Hid (∀ x, ∀ y ∈ Eg ls x, y < ls.length) := fun x y hy => by
    by_cases c : x < ls.length
    · rw [Eg_at c] at hy
      exact hlt _ (List.getElem_mem c) y hy
    · unfold Eg at hy
      rw [List.getD_eq_getElem?_getD, List.getElem?_eq_none (by omega)] at hy
      simp at hy
  have HLE : Hid (∀ x (hx : x < ls.length), (ls[x]).length ≤ 2000) := fun x hx => hlen _ (List.getElem_mem hx)
  have HCM := hide (cbM_le ls hlen)
  obtain ⟨n, hn'⟩ : ∃ n, n = ls.length := ⟨_, rfl⟩
  have HN := hide hn'
  have HN2 := hide (show n ≤ 2000 by omega)
  have han : a < n := by omega
  have ha2 : (a : Int) < (n : Int) := by omega
  have hnb : (n : Int) ≤ 2000 := by omega
  obtain ⟨ao, co, rs, rfl, hc1, hc2, -, -, -⟩ := h
  obtain ⟨g, o, r0, rfl, d0, hr0⟩ := H.out.nth ha
  rw [← hn'] at H HLT hc1 ⊢
  have JC : Hid (∀ W, Below w.heap.size w W → Calls Tryd.prog 81 #[r0] W fun e w' => ∃ v', e = .returned v' ∧ w'.ownsRow W.heap.size 3 1 v' (Eg ls a).length (nz (Eg ls a)) ∧ Below W.heap.size W w') := fun W hW => by
    rw [Eg_at ha]
    exact clone_n (hr0.later hW) (by have := HLE.out a ha; omega)
  have HC0 : Hid (∀ W, Below w.heap.size w W → W.cell? ⟨g, o + a, none⟩ = some r0) := fun W hW => (Mv.of_below hW (fun _ => False)).cell d0 id
  obtain ⟨i0, hi0, hz0, hz1, hz2⟩ := info_parts infoBool
  clear hr0 d0 hlt hn hlen hn' ha
  go_enter Tryd.func56, Tryd.ntmps56
  go_wp2_with (at_make; refine wpList_make_full _ rfl _ _ 50 rfl w.heap.size 4 i0 (.bool false) 1 Tryd.underlying50 hi0 hz0 hz1 .i64 .i64 _ _ n rfl rfl ?c1 ?c2 ?c3 ?c4 ?c5 ?_)
  case c1 => rfl
  case c2 => rfl
  case c3 => have := HN2.out; rw [hz2]; omega
  case c4 => have := HN2.out; unfold maxLen; omega
  case c5 => omega
  intro w1 hown hgrow
  rw [toList_madeCells_one] at hown
  have B1 : Hid (Below w.heap.size w w1) := (Below.refl _ w).grown hgrow (Nat.le_refl _) (fun k e => by cases e)
  have H1 : Hid (w1.ownsRow w.heap.size 4 1 (.slice (some ⟨w.heap.size, 0, none⟩) n n) n (sb n (fun _ => false))) := by
    have e : sb n (fun _ => false) = List.replicate n (.bool false) := by
      apply List.ext_getElem
      · simp [sb]
      · intro i h1 h2
        simp [sb]
    unfold Hid
    rw [e]
    exact hown
  have d1 := HC0.out w1 B1.out
  obtain ⟨gs, hgs⟩ : ∃ x, x = w.heap.size := ⟨_, rfl⟩
  have HGS := hide hgs
  rw [← hgs]
  rw [← hgs] at H1
  clear hown hgrow hgs
  go_wp2_with fail
  refine (JC.out w1 B1.out).mono ?_
  rintro e w2 ⟨v6, rfl, r2, b2⟩
  obtain ⟨a6, c6, hv6⟩ := own_len r2
  have Q0 : Hid (Cb (Eg ls) n a (fun _ => false) (Eg ls a) ∧ w2.ownsRow gs 4 1 (.slice (some ⟨gs, 0, none⟩) n n) n (sb n (fun _ => false)) ∧ w2.ownsRow gs 3 1 v6 (Eg ls a).length (nz (Eg ls a)) ∧ Below w.heap.size w w2 ∧ cbM (Eg ls) n (fun _ => false) (Eg ls a) ≤ 4004000) := by
    refine ⟨Cb.init (HLT.out a), ?_, own_lower r2 (by rw [HGS.out]; exact B1.out.size), below_on B1.out b2, ?_⟩
    rotate_left
    · have h1 := HCM.out (fun _ => false) n
      have h2 := HN2.out
      have h3 : (Eg ls a).length ≤ 2000 := by
        have h4 : a < ls.length := by have := HN.out; omega
        rw [Eg_at h4]
        exact HLE.out a h4
      exact Nat.le_trans (Nat.add_le_add h1 h3) (by omega)
    exact own_later H1.out b2
  clear r2 b2 d1 H1 B1 JC
  subst hv6
  go_wp2_with fail
  go_loopg [6, 7] (cbM (Eg ls) n (fun _ => false) (Eg ls a)) (fun q v6 _ W => ∃ (seen : Nat → Bool) (op : List Nat), q = cbM (Eg ls) n seen op ∧ Hid (Cb (Eg ls) n a seen op ∧ W.ownsRow gs 4 1 (.slice (some ⟨gs, 0, none⟩) n n) n (sb n seen) ∧ W.ownsRow gs 3 1 v6 op.length (nz op) ∧ Below w.heap.size w W ∧ cbM (Eg ls) n seen op ≤ 4004000))
  case atStart => exact ⟨_, _, rfl, Q0.out⟩
  case round =>
    obtain ⟨seen, op, rfl, HR⟩ := hrel
    clear Q0
    obtain ⟨r1, r2, r3, r4, r5⟩ := HR.out
    by_cases c0 : op = []
    · subst c0
      obtain ⟨a6, c6, rfl⟩ := own_len r3
      clear r2 r3
      go_wp2_with fail
      go_ret
      exact ⟨⟨false, rfl, by simpa using Cb.none r1⟩, r4⟩
    · obtain ⟨pre, x, hop⟩ : ∃ pre x, op = pre ++ [x] := ⟨op.dropLast, op.getLast c0, (List.dropLast_concat_getLast c0).symm⟩
      subst hop
      rw [List.length_append, List.length_singleton] at r3
      obtain ⟨m, hm⟩ : ∃ m, m = pre.length := ⟨_, rfl⟩
      rw [← hm] at r3
      obtain ⟨g6, c6, rfl, hc6, hc7⟩ := own_form r3 (by omega)
      have hx : x < n := r1.lt x (by simp)
      have d6 : wr.cell? ⟨g6, m, none⟩ = some (.int .i64 (x : Int)) := by
        rw [r3.cellAt m (by omega), nz_at _ _ (by simp; omega)]
        simp [hm]
      have ds : wr.cell? ⟨gs, x, none⟩ = some (.bool (seen x)) := by rw [r2.cellAt x (by omega), sb_at hx]
      have df := r2.frozenAt x
      have CUT : Hid (wr.ownsRow gs 3 1 (.slice (some ⟨g6, 0, none⟩) m c6) m (nz pre)) := by
        have := own_cut2 r3 (k := m) (by omega)
        have e : (nz (pre ++ [x])).take m = nz pre := by
          unfold nz
          rw [List.map_append, hm, List.take_left' (by simp)]
        rwa [e] at this
      have AP := hide (own_ap2 r2 CUT.out (by decide))
      have R1 := hide r1
      have R2 := hide r2
      have R4 := hide r4
      have R5 := hide r5
      have HM := hide hm
      have hm5 : m ≤ 4004000 := by unfold cbM at r5; simp at r5; omega
      have t1 : (m : Int) + 1 ≤ 9223372036854775807 := by omega
      have t2 : (x : Int) < (n : Int) := by omega
      clear r1 r2 r3 r4 r5 HR hm c0
      by_cases cx : x = a
      · subst cx
        go_wp2_with fail
        go_ret
        exact ⟨⟨true, rfl, by simpa using Cb.found R1.out⟩, R4.out⟩
      · have f1 : ((x : Int) == (a : Int)) = false := beq_eq_false_iff_ne.2 (by omega)
        have CX := hide cx
        clear cx
        by_cases cs : seen x = true
        · rw [cs] at ds
          have CS := hide cs
          clear cs
          go_wp2_with fail
          go_roundg (cbM (Eg ls) n seen pre)
          case measure => exact cbM_known
          case rel => exact ⟨seen, pre, rfl, Cb.known R1.out CS.out, R2.out, HM.out ▸ CUT.out, R4.out, Nat.le_trans (Nat.le_of_lt cbM_known) R5.out⟩
        · have cs' : seen x = false := by simpa using cs
          rw [cs'] at ds
          have CS := hide cs'
          clear cs cs'
          obtain ⟨gx, ox, rx, ex, dx, hrx⟩ := H.out.nth (i := x) (by have := HN.out; omega)
          simp only [Option.some.injEq, Addr.mk.injEq, and_true] at ex
          obtain ⟨rfl, rfl⟩ := ex
          have hgl : g < w.heap.size := World.block_lt_of_cell? w _ dx
          have B5 : Hid (Below w.heap.size w (wr.setCell ⟨gs, x, none⟩ (.bool true))) := R4.out.grown (R2.out.stored x (.bool true)).2 R4.out.size (fun k e => by cases e; have := HGS.out; omega)
          have O5 : Hid ((wr.setCell ⟨gs, x, none⟩ (.bool true)).ownsRow gs 4 1 (.slice (some ⟨gs, 0, none⟩) n n) n (sb n (fun y => seen y || decide (y = x)))) := by
            have := (R2.out.stored x (.bool true)).1
            rw [sb_set] at this
            exact this
          have P5 : Hid ((wr.setCell ⟨gs, x, none⟩ (.bool true)).ownsRow gs 3 1 (.slice (some ⟨g6, 0, none⟩) m c6) m (nz pre)) := own_set CUT.out (fun e => AP.out gs rfl e)
          go_upto_region 10 with fail
          obtain ⟨W5, hW5⟩ : ∃ W5, W5 = wr.setCell ⟨gs, x, none⟩ (.bool true) := ⟨_, rfl⟩
          rw [← hW5] at B5 O5 P5 ⊢
          have dx5 : W5.cell? ⟨g, o + x, none⟩ = some rx := (Mv.of_below B5.out (fun _ => False)).cell dx id
          have hrx5 := hide (hrx.later B5.out)
          clear hW5 ds d6 df dx hrx
          go_wp2_with (at_builtin; refine appendR rfl _ _ rfl gs _ m (nz pre) rfl P5.out rx _ rfl hrx5.out ?b1 ?b2 ?_)
          case b1 =>
            have := HLE.out x (by have := HN.out; omega)
            omega
          case b2 =>
            have := HGS.out
            have := B5.out.size
            omega
          intro v7 w7 o7 gr7
          have hl7 : m + (ls[x]'(by have := HN.out; omega)).length = (pre ++ Eg ls x).length := by
            rw [Eg_at (by have := HN.out; omega), List.length_append, HM.out]
          have Q7 : Hid (Cb (Eg ls) n a (fun y => seen y || decide (y = x)) (pre ++ Eg ls x) ∧ w7.ownsRow gs 4 1 (.slice (some ⟨gs, 0, none⟩) n n) n (sb n (fun y => seen y || decide (y = x))) ∧ w7.ownsRow gs 3 1 v7 (pre ++ Eg ls x).length (nz (pre ++ Eg ls x)) ∧ Below w.heap.size w w7 ∧ cbM (Eg ls) n (fun y => seen y || decide (y = x)) (pre ++ Eg ls x) ≤ 4004000) := by
            refine ⟨Cb.new R1.out CX.out (HLT.out x), own_kept O5.out gr7 (fun k h1 h2 => AP.out k h1 h2), ?_, B5.out.grown gr7 B5.out.size (fun k e => ?_), Nat.le_trans (Nat.le_of_lt (cbM_new hx CS.out)) R5.out⟩
            · rw [← hl7]
              have : nz (pre ++ Eg ls x) = nz pre ++ nz (ls[x]'(by have := HN.out; omega)) := by
                rw [Eg_at (by have := HN.out; omega)]
                simp [nz]
              rw [this]
              exact o7
            · have h1 := HGS.out
              have h2 := own_ge P5.out
              have h3 : g6 = k := by simpa [Value.ownBlock] using e
              omega
          clear o7 gr7 hl7
          go_wp2_with fail
          go_roundg (cbM (Eg ls) n (fun y => seen y || decide (y = x)) (pre ++ Eg ls x))
          case measure => exact cbM_new hx CS.out
          case rel => exact ⟨_, _, rfl, Q7.out⟩
end Go.Proofs.YtklamaibinjcmaaDoor
