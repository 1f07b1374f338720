/-
  A store whose power fails; bytes that are added to it.
-/
import Derived.Test.YtmceoelafmlpjaaStore
namespace Go.Proofs.Ytmceoelafmlpjaa
open Go.RowKit
set_option maxHeartbeats 2000000 in
set_option maxRecDepth 100000 in
theorem fail_any (g B : Nat) (v vj : Value) (l j : List UInt8) (n k : Nat) (on : Bool) (f : Int) (w : World) (h : St w B g v l n on f) (hj : Bs w vj j) (hnj : NilOr vj) (hk : n + k ≤ l.length) (hm : n + k + j.length ≤ 16777216) :
    Calls Try.prog 33 #[.pointer (some ⟨g, 0, none⟩), .int .i64 k, vj] w fun e w' => ∃ v', e = .returned (.tuple #[]) ∧ St w' B g v' (l.take (n + k) ++ j) (n + k + j.length) false (-1) ∧ On w w' g v v' := by
  obtain ⟨c0, c1, c2, c3⟩ := h.cell
  have hl := h.2.2.2.2.2.1
  obtain ⟨gv, c, rfl, hc, hcm⟩ := h.form
  have z0 := h.frozen 0
  have z1 := h.frozen 1
  have hlt := h.lt
  have hBw : B ≤ w.heap.size := Nat.le_trans h.2.2.1 (Nat.le_of_lt hlt)
  have hd := h.later (drew_below w)
  have HO := hide (own_cut hd.2.1 hk)
  have HJ := hide (hj.below (drew_below w) (Nat.le_refl _))
  have HD := hide hd
  have H := hide h
  have hgv := h.2.2.2.1
  have hw1 : IntKind.i64.wrap ((n : Int) + (k : Int)) = (n : Int) + (k : Int) := by rw [IntKind.wrap_i64]; omega
  have hw2 : (0 : Int) ≤ (n : Int) + (k : Int) := by omega
  have hw3 : (n : Int) + (k : Int) ≤ (c : Int) := by omega
  have hw4 : ((n : Int) + (k : Int)).toNat = n + k := by omega
  have K9 : Hid (∀ (v9 : Value) (w9 : World), World.grownBy w.drew w9 (some gv) → w9.ownsRow B 5 1 v9 (n + k + j.length) (Lib.byteCells (l.take (n + k)) ++ Lib.byteCells j) → (v9.ownBlock = some gv ∨ v9.ownBlock = some w.heap.size) →
      St (w9.setCell ⟨g, 0, none⟩ v9) B g v9 (l.take (n + k) ++ j) n on f ∧ On w (w9.setCell ⟨g, 0, none⟩ v9) g (.slice (some ⟨gv, 0, none⟩) l.length c) v9 ∧ w9.heap[g]? = some (.cells #[.slice (some ⟨gv, 0, none⟩) l.length c, .int .i64 n, .bool on, .int .i64 f] 61 (0, 0))) := fun v9 w9 hg ho ha => by
    have e0 : w9.heap[g]? = some (.cells #[.slice (some ⟨gv, 0, none⟩) l.length c, .int .i64 n, .bool on, .int .i64 f] 61 (0, 0)) := (hg.block g hlt (fun e => hgv e.symm)).trans HD.out.1
    rw [← Lib.byteCells_append] at ho
    have el : (l.take (n + k) ++ j).length = n + k + j.length := by rw [List.length_append, List.length_take]; omega
    refine ⟨St.set_v e0 (by rw [el]; exact ho) H.out.2.2.1 ?_ (by omega) (by omega) H.out.2.2.2.2.2.2.1 H.out.2.2.2.2.2.2.2.1 ?_, (((On.refl w g _).later (drew_below w)).grown hg ha).set _ _, e0⟩
    · rcases ha with e | e <;> rw [e]
      · exact hgv
      · simp; omega
    · rcases ha with e | e <;> rw [e] <;> simp
  clear h hj hd
  go_enter Try.func33, Try.ntmps33
  go_wp2_with fail
  go_region_law (refine step_append_at _ rfl (.tmp 17) (.tmp 18) rfl B (.slice (some ⟨gv, 0, none⟩) (n + k) c) (n + k) _ (by simp [Act.eval, Act.put]) HO.out vj j (by simp [Act.eval, Act.put]) HJ.out hnj (by omega) hBw ?_; intro v9 w9 ho9 hg9 ha9; obtain ⟨ao9, c9, rfl⟩ := own_len ho9; obtain ⟨hS9, hO9, he9⟩ := K9.out _ _ hg9 ho9 ha9; have d0 : w9.cell? ⟨g, 0, none⟩ = some (.slice (some ⟨gv, 0, none⟩) l.length c) := (cell_of_row w9 g 0 _ 61 (0, 0) he9).trans rfl; have y0 : w9.frozen? ⟨g, 0, none⟩ = false := frozen_of_row w9 g 0 _ 61 he9; have HS9 := hide hS9; have HO9 := hide hO9; clear hS9 hO9 he9 ho9 hg9 ha9)
  all_goals
    have d1 := HS9.out.cell
    have y1 := HS9.out.frozen
    go_wp2_with fail
    go_end0
    have e : (n : Int) + (k : Int) + (j.length : Int) = ((n + k + j.length : Nat) : Int) := by omega
    rw [e]
    exact ⟨_, rfl, ((HS9.out.set_n (m := n + k + j.length) (by rw [List.length_append, List.length_take]; omega)).set_on false).set_f (-1) (by omega) (by omega), ((HO9.out.set _ _).set _ _).set _ _⟩

theorem bs_take {w : World} {ao : Option Addr} {c m k : Nat} {b : List UInt8} (h : Bs w (.slice ao m c) b) (hk : k ≤ b.length) : Bs w (.slice ao k c) (b.take k) := by
  obtain ⟨_, _, ee, q1, q2, q3⟩ := h
  simp only [Value.slice.injEq] at ee
  obtain ⟨rfl, _, rfl⟩ := ee
  have e : (b.take k).length = k := by rw [List.length_take]; omega
  refine ⟨ao, c, by rw [e], by omega, q2, fun x hx => ?_⟩
  rw [e] at hx
  obtain ⟨g, o, h1, h2⟩ := q3 x (by omega)
  exact ⟨g, o, h1, by rw [h2, List.getElem_take]⟩
set_option maxHeartbeats 1000000 in
theorem append_off (g B : Nat) (v vb : Value) (l : List UInt8) (n : Nat) (f : Int) (w : World) (h : St w B g v l n false f) :
    Calls Try.prog 12 #[.pointer (some ⟨g, 0, none⟩), vb] w fun e w' => e = .returned (.int .i64 30) ∧ w' = w := by
  obtain ⟨c0, c1, c2, c3⟩ := h.cell
  clear h
  go_enter Try.func12, Try.ntmps12
  go_wp2_with fail
  go_ret
  exact ⟨rfl, rfl⟩
set_option maxHeartbeats 1000000 in
theorem append_full (g B : Nat) (v vb : Value) (l b : List UInt8) (n : Nat) (f : Int) (w : World) (h : St w B g v l n true f) (hb : Bs w vb b) (hs : b.length ≤ 9223372019999999999) (hm : 16777216 < l.length + b.length) :
    Calls Try.prog 12 #[.pointer (some ⟨g, 0, none⟩), vb] w fun e w' => e = .returned (.int .i64 40) ∧ w' = w := by
  obtain ⟨c0, c1, c2, c3⟩ := h.cell
  have hl := h.2.2.2.2.2.1
  obtain ⟨gv, c, rfl, hc, hcm⟩ := h.form
  obtain ⟨ao, cb, rfl, h1, h2, h3⟩ := hb
  clear h h3
  unfold maxLen at h2
  have e1 : IntKind.i64.wrap ((l.length : Int) + (b.length : Int)) = (l.length : Int) + (b.length : Int) := by rw [IntKind.wrap_i64]; omega
  have e2 : (l.length : Int) + (b.length : Int) > 16777216 := by omega
  go_enter Try.func12, Try.ntmps12
  go_wp2_with fail
  go_ret
  exact ⟨rfl, rfl⟩
/-- What an append onto a store's bytes leaves. -/
theorem grown_store {w w9 : World} {B g gv c n : Nat} {l b : List UInt8} {on : Bool} {f : Int} {v9 : Value} (h : St w B g (.slice (some ⟨gv, 0, none⟩) l.length c) l n on f) (hm : l.length + b.length ≤ 16777216) (hg : w.grownBy w9 (some gv)) (ho : w9.ownsRow B 5 1 v9 (l.length + b.length) (Lib.byteCells l ++ Lib.byteCells b)) (ha : v9.ownBlock = some gv ∨ v9.ownBlock = some w.heap.size) :
    St (w9.setCell ⟨g, 0, none⟩ v9) B g v9 (l ++ b) n on f ∧ On w (w9.setCell ⟨g, 0, none⟩ v9) g (.slice (some ⟨gv, 0, none⟩) l.length c) v9 ∧ w9.heap[g]? = some (.cells #[.slice (some ⟨gv, 0, none⟩) l.length c, .int .i64 n, .bool on, .int .i64 f] 61 (0, 0)) := by
  have hgv := h.2.2.2.1
  have e0 : w9.heap[g]? = some (.cells #[.slice (some ⟨gv, 0, none⟩) l.length c, .int .i64 n, .bool on, .int .i64 f] 61 (0, 0)) := (hg.block g h.lt (fun e => hgv e.symm)).trans h.1
  rw [← Lib.byteCells_append] at ho
  have el : (l ++ b).length = l.length + b.length := List.length_append
  refine ⟨St.set_v e0 (by rw [el]; exact ho) h.2.2.1 ?_ (by have := h.2.2.2.2.1; omega) (by omega) h.2.2.2.2.2.2.1 h.2.2.2.2.2.2.2.1 ?_, ((On.refl w g _).grown hg ha).set _ _, e0⟩
  · rcases ha with e | e <;> rw [e]
    · exact hgv
    · have := h.lt
      simp
      omega
  · rcases ha with e | e <;> rw [e] <;> simp
set_option maxHeartbeats 2000000 in
set_option maxRecDepth 100000 in
theorem append_free (g B : Nat) (v vb : Value) (l b : List UInt8) (n : Nat) (w : World) (h : St w B g v l n true (-1)) (hb : Bs w vb b) (hnb : NilOr vb) (hm : l.length + b.length ≤ 16777216) :
    Calls Try.prog 12 #[.pointer (some ⟨g, 0, none⟩), vb] w fun e w' => ∃ v', e = .returned (.int .i64 0) ∧ St w' B g v' (l ++ b) n true (-1) ∧ On w w' g v v' := by
  obtain ⟨c0, c1, c2, c3⟩ := h.cell
  have hl := h.2.2.2.2.2.1
  obtain ⟨gv, c, rfl, hc, hcm⟩ := h.form
  obtain ⟨ao, cb, rfl, _, _, _⟩ := id hb
  have hlt := h.lt
  have hBw : B ≤ w.heap.size := Nat.le_trans h.2.2.1 (Nat.le_of_lt hlt)
  have H := hide h
  have HB := hide hb
  clear h hb
  have e1 : IntKind.i64.wrap ((l.length : Int) + (b.length : Int)) = (l.length : Int) + (b.length : Int) := by rw [IntKind.wrap_i64]; omega
  have e2 : ¬ (l.length : Int) + (b.length : Int) > 16777216 := by omega
  go_enter Try.func12, Try.ntmps12
  go_wp2_with (at_builtin; refine wpList_append_at _ rfl _ _ rfl B _ _ _ rfl H.out.2.1 _ b rfl HB.out hnb (by omega) hBw ?_)
  intro v9 w9 ho hg ha
  obtain ⟨ao9, c9, rfl⟩ := own_len ho
  obtain ⟨hS, hO, he⟩ := grown_store H.out hm hg ho ha
  have d0 : w9.cell? ⟨g, 0, none⟩ = some (.slice (some ⟨gv, 0, none⟩) l.length c) := (cell_of_row w9 g 0 _ 61 (0, 0) he).trans rfl
  have y0 : w9.frozen? ⟨g, 0, none⟩ = false := frozen_of_row w9 g 0 _ 61 he
  have HS := hide hS
  have HO := hide hO
  clear hS hO he ho hg ha
  go_wp2_with fail
  go_ret
  exact ⟨_, rfl, HS.out, HO.out⟩
set_option maxHeartbeats 4000000 in
set_option maxRecDepth 100000 in
theorem append_fuse (g B : Nat) (v vb : Value) (l b : List UInt8) (n : Nat) (f : Nat) (w : World) (h : St w B g v l n true f) (hb : Bs w vb b) (hnb : NilOr vb) (hm : l.length + b.length ≤ 16777216) (hf : b.length ≤ f) :
    Calls Try.prog 12 #[.pointer (some ⟨g, 0, none⟩), vb] w fun e w' => ∃ v', e = .returned (.int .i64 0) ∧ St w' B g v' (l ++ b) n true ((f - b.length : Nat) : Int) ∧ On w w' g v v' := by
  obtain ⟨c0, c1, c2, c3⟩ := h.cell
  have hl := h.2.2.2.2.2.1
  have hfm := h.2.2.2.2.2.2.2.1
  obtain ⟨gv, c, rfl, hc, hcm⟩ := h.form
  obtain ⟨ao, cb, rfl, hb1, hb2, _⟩ := id hb
  unfold maxLen at hb2
  have hlt := h.lt
  have hBw : B ≤ w.heap.size := Nat.le_trans h.2.2.1 (Nat.le_of_lt hlt)
  have hd := h.later (drew_below w)
  have H := hide hd
  have HB := hide (hb.below (drew_below w) (Nat.le_refl _))
  have z0 := h.frozen 0
  have z3 := h.frozen 3
  clear h hb hd
  have e1 : IntKind.i64.wrap ((l.length : Int) + (b.length : Int)) = (l.length : Int) + (b.length : Int) := by rw [IntKind.wrap_i64]; omega
  have e2 : ¬ (l.length : Int) + (b.length : Int) > 16777216 := by omega
  have e3 : ((f : Int) == -1) = false := by rw [beq_eq_false_iff_ne]; omega
  go_enter Try.func12, Try.ntmps12
  go_wp2_with fail
  go_region_law (refine step_append_at _ rfl (.tmp 45) (.tmp 48) rfl B (.slice (some ⟨gv, 0, none⟩) l.length c) l.length _ (by simp [Act.eval]) H.out.2.1 (.slice ao b.length cb) b (by simp [Act.eval]) HB.out hnb (by omega) hBw ?_; intro v9 w9 ho9 hg9 ha9; obtain ⟨ao9, c9, rfl⟩ := own_len ho9; obtain ⟨hS9, hO9, he9⟩ := grown_store H.out hm hg9 ho9 ha9; have d0 : w9.cell? ⟨g, 0, none⟩ = some (.slice (some ⟨gv, 0, none⟩) l.length c) := (cell_of_row w9 g 0 _ 61 (0, 0) he9).trans rfl; have d3 : w9.cell? ⟨g, 3, none⟩ = some (.int .i64 f) := (cell_of_row w9 g 3 _ 61 (0, 0) he9).trans rfl; have y0 : w9.frozen? ⟨g, 0, none⟩ = false := frozen_of_row w9 g 0 _ 61 he9; have y3 : w9.frozen? ⟨g, 3, none⟩ = false := frozen_of_row w9 g 3 _ 61 he9; have HS9 := hide hS9; have HO9 := hide hO9; clear hS9 hO9 he9 ho9 hg9 ha9)
  all_goals
    go_wp2_with fail
    go_ret
    have e : (f : Int) - (b.length : Int) = ((f - b.length : Nat) : Int) := by omega
    rw [e]
    exact ⟨_, rfl, HS9.out.set_f _ (by omega) (by omega), (((On.refl w g _).later (drew_below w)).trans HO9.out).set _ _⟩
set_option maxHeartbeats 4000000 in
set_option maxRecDepth 100000 in
theorem append_burst (g B : Nat) (v vb : Value) (l b : List UInt8) (n : Nat) (f : Nat) (w : World) (h : St w B g v l n true f) (hb : Bs w vb b) (hnb : NilOr vb) (hm : l.length + b.length ≤ 16777216) (hf : f < b.length) :
    Calls Try.prog 12 #[.pointer (some ⟨g, 0, none⟩), vb] w fun e w' => ∃ v', e = .returned (.int .i64 30) ∧ St w' B g v' (l ++ b.take f) (l.length + f) false (-1) ∧ On w w' g v v' := by
  obtain ⟨c0, c1, c2, c3⟩ := h.cell
  have hl := h.2.2.2.2.2.1
  have hfm := h.2.2.2.2.2.2.2.1
  obtain ⟨gv, c, rfl, hc, hcm⟩ := h.form
  obtain ⟨ao, cb, rfl, hb1, hb2, _⟩ := id hb
  unfold maxLen at hb2
  have hlt := h.lt
  have hBw : B ≤ w.heap.size := Nat.le_trans h.2.2.1 (Nat.le_of_lt hlt)
  have hd := h.later (drew_below w)
  have H := hide hd
  have HB := hide (bs_take (hb.below (drew_below w) (Nat.le_refl _)) (k := f) (by omega))
  have z0 := h.frozen 0
  have z3 := h.frozen 3
  clear h hb hd
  have e1 : IntKind.i64.wrap ((l.length : Int) + (b.length : Int)) = (l.length : Int) + (b.length : Int) := by rw [IntKind.wrap_i64]; omega
  have e2 : ¬ (l.length : Int) + (b.length : Int) > 16777216 := by omega
  have hbt : (b.take f).length = f := by rw [List.length_take]; omega
  have HN : Hid (NilOr (.slice ao f cb)) := by
    rcases hnb with e | ⟨ad, m, c', e⟩
    · simp only [Value.slice.injEq] at e
      omega
    · simp only [Value.slice.injEq] at e
      exact .inr ⟨ad, f, cb, by rw [e.1]⟩
  have hfc : f ≤ cb := by omega
  have e3 : ((f : Int) == -1) = false := by rw [beq_eq_false_iff_ne]; omega
  go_enter Try.func12, Try.ntmps12
  go_wp2_with fail
  go_region_law (refine step_append_at _ rfl (.tmp 45) (.tmp 48) rfl B (.slice (some ⟨gv, 0, none⟩) l.length c) l.length _ (by simp [Act.eval]) H.out.2.1 (.slice ao f cb) (b.take f) (by simp [Act.eval]) HB.out HN.out (by omega) hBw ?_; intro v9 w9 ho9 hg9 ha9; obtain ⟨ao9, c9, rfl⟩ := own_len ho9; obtain ⟨hS9, hO9, he9⟩ := grown_store H.out (by rw [hbt]; omega) hg9 ho9 ha9; have d0 : w9.cell? ⟨g, 0, none⟩ = some (.slice (some ⟨gv, 0, none⟩) l.length c) := (cell_of_row w9 g 0 _ 61 (0, 0) he9).trans rfl; have d3 : w9.cell? ⟨g, 3, none⟩ = some (.int .i64 f) := (cell_of_row w9 g 3 _ 61 (0, 0) he9).trans rfl; have y0 : w9.frozen? ⟨g, 0, none⟩ = false := frozen_of_row w9 g 0 _ 61 he9; have y3 : w9.frozen? ⟨g, 3, none⟩ = false := frozen_of_row w9 g 3 _ 61 he9; have HS9 := hide hS9; have HO9 := hide hO9; clear hS9 hO9 he9 ho9 hg9 ha9)
  all_goals
    have hS := HS9.out
    have hO := HO9.out
    rw [hbt] at hS hO
    have hst := hS.set_f 0 (by omega) (by omega)
    have hon := (((On.refl w g _).later (drew_below w)).trans hO).set 3 (.int .i64 0)
    have hlen : (l ++ b.take f).length = l.length + f := by rw [List.length_append, hbt]
    have hn := hst.2.2.2.2.1
    rw [hlen] at hn
    have HST := hide hst
    have HON := hide hon
    clear hst hon hS hO HS9 HO9
    have e8 : (f : Int) < (b.length : Int) := by omega
    have HLEN := hide hlen
    have HBT := hide hbt
    clear hlen hbt
    go_wp2_with fail
    refine (loose_any g B _ _ _ _ _ _ HST.out).mono ?_
    rintro e w3 ⟨rfl, hb3⟩
    rw [HLEN.out]
    have HST3 := hide (HST.out.later hb3)
    have HON3 := hide (HON.out.later hb3)
    clear HST HON hb3
    have e7 : n + (l.length + f - n) = l.length + f := by omega
    have hfail := fail_any g B _ (.slice none 0 0) _ [] n (l.length + f - n) true 0 w3 HST3.out (Bs.nil w3) (.inl rfl) (by rw [HLEN.out]; omega) (by simp only [List.length_nil]; omega)
    rw [e7, List.append_nil, List.take_of_length_le (by rw [HLEN.out]; omega), List.length_nil, Nat.add_zero] at hfail
    have HF := hide hfail
    clear hfail e7
    go_wp2_with fail
    refine HF.out.mono ?_
    rintro e w4 ⟨v4, rfl, hs4, ho4⟩
    have HS4 := hide hs4
    have HO4 := hide (HON3.out.trans ho4)
    clear hs4 ho4
    go_wp2_with fail
    go_ret
    exact ⟨_, rfl, HS4.out, HO4.out⟩
end Go.Proofs.Ytmceoelafmlpjaa
