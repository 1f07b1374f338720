/-
  Plan's law: grows: what its loops leave.
-/
import Derived.Test.YthgjdmomcpcolaaKe
namespace Go.Proofs.Ythgjdmomcpcolaa
open Go.RowKit
set_option maxRecDepth 100000
theorem Rw.slen {W : World} {B : Nat} {v : Value} {l : List Int} (h : Rw W B v l) : slen v = l.length := by
  obtain ⟨a, c, rfl⟩ := own_len h
  rfl
/-- Those that are to be grown are not long. -/
def Pd (P : Nat → Bool) (ls : List Value) : Prop := ∀ q (h : q < ls.length), P q = true → slen ls[q] ≤ 1000
/-- From i on, up to n. -/
def pq (i n : Nat) : Nat → Bool := fun q => decide (i ≤ q ∧ q < n)
theorem pq_here {i n : Nat} (h : i < n) : pq i n i = true := decide_eq_true ⟨Nat.le_refl _, h⟩
theorem pq_gone {i n : Nat} : pq (i + 1) n i = false := decide_eq_false (by omega)
theorem pq_far {i n q : Nat} (h : n ≤ q) : pq i n q = false := decide_eq_false (by omega)
theorem pq_other {i n q : Nat} (h : q ≠ i) : pq i n q = pq (i + 1) n q := by
  unfold pq
  rw [Bool.eq_iff_iff, decide_eq_true_iff, decide_eq_true_iff]
  omega
/-- The first loop: rows up to i are grown. -/
def G1 (W : World) (gb : Nat) (own : Nat → Nat) (vo vn : Value) (os : List Value) (ns : List Int) (ci cj : Nat) (R : Nat → Bool) (n i : Nat) (own' : Nat → Nat) (vl vm : Value) (ls : List Value) (ms : List Int) (X : World) : Prop :=
  Bl X gb own' vl vm vo vn ls ms os ns ci cj (pq i n) R ∧ ms.length = ls.length ∧ ls.length + ci = n + i ∧ Mv W X (fun k => own k ≠ 0) ∧ (∀ k, own' k ≠ 0 → own k ≠ 0 ∨ W.heap.size ≤ k) ∧ Pd (pq i n) ls
/-- The inner loop: a row is being grown. -/
def G2 (gb : Nat) (own' : Nat → Nat) (vl vm vo vn : Value) (ls : List Value) (ms : List Int) (os : List Value) (ns : List Int) (ci cj : Nat) (P R : Nat → Bool) (i : Nat) (r : Value) (m : Int) (X : World) (len kk : Nat) (v : Value) (Y : World) : Prop :=
  Bl Y gb own' vl vm vo vn ls ms os ns ci cj P R ∧ Rw Y 0 v (List.replicate (len + kk) m) ∧ (v.ownBlock = r.ownBlock ∨ ∀ k, v.ownBlock = some k → X.heap.size ≤ k) ∧ Mv X Y (fun k => own' k = 2 * i + 8)
section
variable {gb : Nat} {own' : Nat → Nat} {vl vm vo vn : Value} {ls os : List Value} {ms ns : List Int} {ci cj : Nat} {P R : Nat → Bool} {i len kk : Nat} {r v : Value} {m : Int} {X Y : World}
theorem G2.step {w' : World} {v' : Value} {o : Obj} (h : G2 gb own' vl vm vo vn ls ms os ns ci cj P R i r m X len kk v Y) (hX : Bl X gb own' vl vm vo vn ls ms os ns ci cj P R) (hi : P i = true) (hil : i < ls.length) (him : i < ms.length) (hr : ls[i] = r) (hm : ms[i] = m) (hl : len = slen r)
    (ho : w'.ownsRow 0 3 1 v' (len + kk + 1) (zc (List.replicate (len + kk) m) ++ [.int .i64 m])) (hg : (Y.alloc o).grownBy w' v.ownBlock) (hb : v'.ownBlock = v.ownBlock ∨ v'.ownBlock = some (Y.alloc o).heap.size) (hk : w'.ownsRow 0 3 1 v (len + kk) (zc (List.replicate (len + kk) m))) :
    G2 gb own' vl vm vo vn ls ms os ns ci cj P R i r m X len (kk + 1) v' w' := by
  obtain ⟨h1, h2, h3, h4⟩ := h
  have h1' := h1.later (below_alloc Y o)
  have h2' : (Y.alloc o).ownsRow 0 3 1 v (len + kk) (zc (List.replicate (len + kk) m)) := by
    have := own_later h2 (below_alloc Y o)
    rw [List.length_replicate] at this
    exact this
  have hrow := h1'.rows i hil him
  rw [hi, if_pos rfl] at hrow
  obtain ⟨n0, hn0, hra, hlab⟩ := hrow
  rw [hr, hm] at hra
  rw [hr] at hlab
  have hn : n0 = len := by
    have := hra.slen
    rw [List.length_replicate] at this
    omega
  subst hn
  have hvb : ∀ k, v.ownBlock = some k → own' k = 2 * i + 8 ∨ own' k = 0 := fun k e => by
    rcases h3 with c | c
    · exact .inl (hlab k (c ▸ e))
    · have := c k e
      by_cases z : own' k = 0
      · exact .inr z
      · have := hX.lt k z
        omega
  have hz : zc (List.replicate (n0 + kk) m) = List.replicate (n0 + kk) (.int .i64 m) := by simp [zc]
  have hra' : (Y.alloc o).ownsRow 0 3 1 r n0 (zc (List.replicate n0 m)) := by
    have := hra
    unfold Rw at this
    rw [List.length_replicate] at this
    exact this
  refine ⟨h1'.growL hg hvb (fun _ _ => ?_), ?_, ?_, ?_⟩
  · rw [hi, if_pos rfl, hr, hm]
    refine ⟨n0, hn0, ?_, hlab⟩
    unfold Rw
    rw [List.length_replicate]
    by_cases c : v.ownBlock = r.ownBlock
    · have := own_within hra' h2' hk c.symm (Nat.le_add_right _ _) (fun _ e => by
        rcases h2'.2 with ⟨_, z⟩ | ⟨g, cap, cur, e2, _⟩
        · omega
        · rw [e2] at e
          simp [Value.ownBlock] at e)
      rw [hz, List.take_replicate, Nat.min_eq_left (Nat.le_add_right _ _)] at this
      have e2 : zc (List.replicate n0 m) = List.replicate n0 (.int .i64 m) := by simp [zc]
      rw [e2]
      exact this
    · refine own_kept hra' hg (fun k e x => ?_)
      rcases h3 with c2 | c2
      · exact c c2
      · have h5 := c2 k x
        have := hX.lt k (by rw [show own' k = 2 * i + 8 from hlab k e]; omega)
        omega
  · unfold Rw
    rw [List.length_replicate, ← Nat.add_assoc, List.replicate_succ', zc_append]
    exact ho
  · rcases hb with c | c
    · rw [c]
      exact h3
    · refine .inr (fun k e => ?_)
      rw [c] at e
      cases e
      have := h4.size
      rw [alloc_size]
      omega
  · refine Mv.trans (h4.alloc o) (S' := fun k => v.ownBlock = some k) ((Mv.refl _ _).grown hg (fun _ _ e => e)) (fun k hk2 e => ?_)
    rcases h3 with c | c
    · exact hlab k (c ▸ e)
    · have := c k e
      omega
end
/-- The inner loop of the second kind: a list of rows is being grown. -/
def G4 (gb : Nat) (own' : Nat → Nat) (vl vm vo vn : Value) (ls : List Value) (ms : List Int) (os : List Value) (ns : List Int) (ci cj : Nat) (P R : Nat → Bool) (i : Nat) (r : Value) (m : Int) (X : World) (len kk : Nat) (xs : List Value) (v : Value) (Y : World) : Prop :=
  ∃ own2, Bl Y gb own2 vl vm vo vn ls ms os ns ci cj P R ∧ xs.length = len + kk ∧ Y.ownsRow 0 23 1 v (len + kk) xs ∧ (∀ x ∈ xs, One Y own2 x m) ∧ (v.ownBlock = r.ownBlock ∨ ∀ k, v.ownBlock = some k → X.heap.size ≤ k ∧ own2 k = 0) ∧ Mv X Y (fun k => own' k = 2 * i + 9) ∧ (∀ k, own2 k ≠ 0 → own' k ≠ 0 ∨ X.heap.size ≤ k) ∧ ∀ k, k < X.heap.size → own2 k = own' k
section
variable {gb : Nat} {own' : Nat → Nat} {vl vm vo vn : Value} {ls os : List Value} {ms ns : List Int} {ci cj : Nat} {P R : Nat → Bool} {i len kk : Nat} {r v : Value} {m : Int} {X Y : World}
theorem G4.step {w' : World} {v' : Value} {xs : List Value} (h : G4 gb own' vl vm vo vn ls ms os ns ci cj P R i r m X len kk xs v Y) (hX : Bl X gb own' vl vm vo vn ls ms os ns ci cj P R) (hi : R i = true) (hil : i < os.length) (him : i < ns.length) (hr : os[i] = r) (hm : ns[i] = m) (hl : len = slen r)
    (ho : w'.ownsRow 0 23 1 v' (len + kk + 1) (xs ++ [.slice (some ⟨Y.heap.size, 0, none⟩) 1 1])) (hg : ((Y.alloc (.cells #[.int .i64 m] 3)).alloc (.cells #[.slice (some ⟨Y.heap.size, 0, none⟩) 1 1] 23)).grownBy w' v.ownBlock) (hb : v'.ownBlock = v.ownBlock ∨ v'.ownBlock = some (Y.heap.size + 2)) (hk : w'.ownsRow 0 23 1 v (len + kk) xs) :
    G4 gb own' vl vm vo vn ls ms os ns ci cj P R i r m X len (kk + 1) (xs ++ [.slice (some ⟨Y.heap.size, 0, none⟩) 1 1]) v' w' := by
  obtain ⟨own2, h1, hxl, h2, hone, h3, h4, h5, h6⟩ := h
  obtain ⟨Y1, hY1⟩ : ∃ Z, Z = Y.alloc (.cells #[.int .i64 m] 3) := ⟨_, rfl⟩
  obtain ⟨Y2, hY2⟩ : ∃ Z, Z = Y1.alloc (.cells #[.slice (some ⟨Y.heap.size, 0, none⟩) 1 1] 23) := ⟨_, rfl⟩
  rw [← hY1, ← hY2] at hg
  have b1 : Below Y.heap.size Y Y1 := by rw [hY1]; exact below_alloc Y _
  have b2 : Below Y.heap.size Y Y2 := below_on b1 (by rw [hY2]; exact below_alloc Y1 _)
  have s2 : Y2.heap.size = Y.heap.size + 2 := by rw [hY2, alloc_size, hY1, alloc_size]
  have c1 : Y2.cell? ⟨Y.heap.size, 0, none⟩ = some (.int .i64 m) := by
    have e1 : Y1.cell? ⟨Y.heap.size, 0, none⟩ = some (.int .i64 m) := by
      rw [hY1, cell_of_row _ _ _ _ 3 (0, 0) (heap_alloc_new Y _)]
      rfl
    rw [hY2]
    exact (Mv.of_below (below_alloc Y1 _) (fun _ => False)).cell e1 id
  have hnew : ∀ k, Y.heap.size ≤ k → own2 k = 0 := fun k hk2 => by
    apply Classical.byContradiction
    intro z
    have := h1.lt k z
    omega
  have hsz := h4.size
  -- the new number's block
  obtain ⟨own3, hown3⟩ : ∃ f, f = lbl own2 (.slice (some ⟨Y.heap.size, 0, none⟩) 1 1) 6 := ⟨_, rfl⟩
  have hob : (Value.slice (some ⟨Y.heap.size, 0, none⟩) 1 1).ownBlock = some Y.heap.size := rfl
  have o3 : ∀ k, k ≠ Y.heap.size → own3 k = own2 k := fun k hk2 => by
    rw [hown3]
    exact lbl_other (fun e => hk2 (by rw [hob] at e; cases e; rfl))
  have o36 : own3 Y.heap.size = 6 := by
    rw [hown3]
    exact lbl_own _ _ _ _ rfl
  have hB : Bl Y2 gb own3 vl vm vo vn ls ms os ns ci cj P R := by
    rw [hown3]
    refine (h1.later b2).label (fun k e => ?_) (fun k e => ?_) 6
    · rw [hob] at e
      cases e
      exact hnew _ (Nat.le_refl _)
    · rw [hob] at e
      cases e
      omega
  have hone2 : ∀ x ∈ xs ++ [.slice (some ⟨Y.heap.size, 0, none⟩) 1 1], One Y2 own3 x m := fun x hx => by
    rw [List.mem_append, List.mem_singleton] at hx
    rcases hx with hx | rfl
    · exact (hone x hx).move (Mv.of_below b2 (fun _ => False)) (fun k e => ⟨id, by
        rw [o3 k (fun c => by rw [c, hnew _ (Nat.le_refl _)] at e; cases e), e]⟩)
    · exact ⟨Y.heap.size, rfl, o36, c1⟩
  have h2' : Y2.ownsRow 0 23 1 v (len + kk) xs := own_later h2 b2
  have hrow := hB.orows i hil him
  rw [hi, if_pos rfl] at hrow
  obtain ⟨ys, hys, hra, hlab, hyo⟩ := hrow
  rw [hr] at hra hlab
  rw [hm] at hyo
  have hn : ys.length = len := by
    obtain ⟨a, c, e⟩ := own_len hra
    rw [hl, e]
    rfl
  have hvb : ∀ k, v.ownBlock = some k → own3 k = 2 * i + 9 ∨ own3 k = 0 := fun k e => by
    rcases h3 with c | c
    · exact .inl (hlab k (c ▸ e))
    · have := (h2.lt k e).2
      rw [o3 k (by omega)]
      exact .inr (c k e).2
  have hrlt : ∀ k, r.ownBlock = some k → k < X.heap.size := fun k e => by
    have hx := hX.orows i hil him
    rw [hi, if_pos rfl, hr] at hx
    obtain ⟨zs, _, hz, _⟩ := hx
    exact (hz.lt k e).2
  have hmv : Mv Y2 w' (fun k => v.ownBlock = some k) := (Mv.refl _ _).grown hg (fun _ _ e => e)
  have h6' : ∀ k, own3 k = 6 → ¬ v.ownBlock = some k ∧ own3 k = 6 := fun k e => ⟨fun x => by
    rcases hvb k x with y | y <;> omega, e⟩
  refine ⟨own3, hB.growO hg hvb (fun _ _ => ?_), by simp [hxl]; omega, ho, fun x hx => (hone2 x hx).move hmv h6', ?_, ?_, ?_, ?_⟩
  · rw [hi, if_pos rfl, hr, hm]
    by_cases c : v.ownBlock = r.ownBlock
    · have := own_within (n := ys.length) hra h2' hk c.symm (by omega) (fun _ e => by
        rcases h2'.2 with ⟨_, z⟩ | ⟨g, cap, cur, e2, _⟩
        · omega
        · rw [e2] at e
          simp [Value.ownBlock] at e)
      have hlen : (xs.take ys.length).length = ys.length := by rw [List.length_take]; omega
      refine ⟨xs.take ys.length, by omega, by rw [hlen]; exact this, hlab, fun x hx => ?_⟩
      exact (hone2 x (List.mem_append_left _ (List.mem_of_mem_take hx))).move hmv h6'
    · refine ⟨ys, hys, own_kept hra hg (fun k e x => ?_), hlab, fun x hx => (hyo x hx).move hmv h6'⟩
      rcases h3 with c2 | c2
      · exact c c2
      · have := (c2 k x).1
        have := hrlt k e
        omega
  · rcases hb with c | c
    · rw [c]
      refine h3.imp id (fun z k e => ⟨(z k e).1, ?_⟩)
      have := (h2.lt k e).2
      rw [o3 k (by omega)]
      exact (z k e).2
    · refine .inr (fun k e => ?_)
      rw [c] at e
      cases e
      refine ⟨by omega, ?_⟩
      rw [o3 _ (by omega)]
      exact hnew _ (by omega)
  · refine Mv.trans (h4.later b2) hmv (fun k hk2 e => ?_)
    rcases h3 with c | c
    · have e1 : own3 k = 2 * i + 9 := hlab k (c ▸ e)
      rw [o3 k (by omega), h6 k hk2] at e1
      exact e1
    · have := (c k e).1
      omega
  · intro k e
    by_cases c : k = Y.heap.size
    · exact .inr (by omega)
    · rw [o3 k c] at e
      exact h5 k e
  · intro k hk2
    rw [o3 k (by omega)]
    exact h6 k hk2
end
/-- The second loop: lists up to i are grown. -/
def G3 (W : World) (gb : Nat) (own : Nat → Nat) (vl vm : Value) (ls : List Value) (ms : List Int) (ci cj : Nat) (P : Nat → Bool) (n i : Nat) (own' : Nat → Nat) (vo vn : Value) (os : List Value) (ns : List Int) (X : World) : Prop :=
  Bl X gb own' vl vm vo vn ls ms os ns ci cj P (pq i n) ∧ ns.length = os.length ∧ os.length + cj = n + i ∧ Mv W X (fun k => own k ≠ 0) ∧ (∀ k, own' k ≠ 0 → own k ≠ 0 ∨ W.heap.size ≤ k) ∧ Pd (pq i n) os
section
variable {W : World} {gb : Nat} {own : Nat → Nat} {vl vm vo vn : Value} {ls os : List Value} {ms ns : List Int} {ci cj : Nat} {P R : Nat → Bool}
theorem Bl.tick {f x : Nat} {cs : Array Value} (h : Bl W gb own vl vm vo vn ls ms os ns ci cj P R) {ci' cj' : Nat} (hc : (W.setCell ⟨gb, f, none⟩ (.int .i64 (x : Int))).heap[gb]? = some (.cells cs 35 (0, 0))) (hcs : cs = #[vl, vm, vo, vn, .int .i64 (ci' : Int), .int .i64 (cj' : Int)]) : Bl (W.setCell ⟨gb, f, none⟩ (.int .i64 (x : Int))) gb own vl vm vo vn ls ms os ns ci' cj' P R := by
  have hm : Mv W (W.setCell ⟨gb, f, none⟩ (.int .i64 (x : Int))) (fun k => k = gb) := Mv.set (S := fun k => k = gb) (Mv.refl W _) rfl f _
  have kp : ∀ lab, lab ≠ 1 → ∀ k, own k = lab → ¬ k = gb ∧ own k = lab := fun lab h1 k e => ⟨fun c => h1 (by rw [← e, c, h.gb1]), e⟩
  exact {
    cells := by rw [hc, hcs]
    gb1 := h.gb1
    l := hm.own h.l (fun k e => (kp 2 (by decide) k (h.l2 k e)).1)
    l2 := h.l2
    m := hm.own h.m (fun k e => (kp 3 (by decide) k (h.m3 k e)).1)
    m3 := h.m3
    o := hm.own h.o (fun k e => (kp 4 (by decide) k (h.o4 k e)).1)
    o4 := h.o4
    n := hm.own h.n (fun k e => (kp 5 (by decide) k (h.n5 k e)).1)
    n5 := h.n5
    rows := fun q h1 h2 => (h.rows q h1 h2).move hm (kp _ label_ne.2.1)
    orows := fun q h1 h2 => (h.orows q h1 h2).move hm (kp _ label_ne'.2.1) (kp 6 (by decide))
    lt := fun k e => Nat.lt_of_lt_of_le (h.lt k e) hm.size }
theorem Bl.tickI (h : Bl W gb own vl vm vo vn ls ms os ns ci cj P R) (x : Nat) : Bl (W.setCell ⟨gb, 4, none⟩ (.int .i64 (x : Int))) gb own vl vm vo vn ls ms os ns x cj P R := h.tick (heap_setCell_same W gb 4 _ 35 _ h.cells) rfl
theorem Bl.tickJ (h : Bl W gb own vl vm vo vn ls ms os ns ci cj P R) (x : Nat) : Bl (W.setCell ⟨gb, 5, none⟩ (.int .i64 (x : Int))) gb own vl vm vo vn ls ms os ns ci x P R := h.tick (heap_setCell_same W gb 5 _ 35 _ h.cells) rfl
theorem Bl.cell (h : Bl W gb own vl vm vo vn ls ms os ns ci cj P R) : W.cell? ⟨gb, 0, none⟩ = some vl ∧ W.cell? ⟨gb, 1, none⟩ = some vm ∧ W.cell? ⟨gb, 2, none⟩ = some vo ∧ W.cell? ⟨gb, 3, none⟩ = some vn ∧ W.cell? ⟨gb, 4, none⟩ = some (.int .i64 (ci : Int)) ∧ W.cell? ⟨gb, 5, none⟩ = some (.int .i64 (cj : Int)) := by
  refine ⟨?_, ?_, ?_, ?_, ?_, ?_⟩ <;> rw [cell_of_row _ _ _ _ 35 (0, 0) h.cells] <;> rfl
theorem Bl.frozen (h : Bl W gb own vl vm vo vn ls ms os ns ci cj P R) (f : Nat) : W.frozen? ⟨gb, f, none⟩ = false := frozen_of_row W gb _ _ 35 h.cells
end
end Go.Proofs.Ythgjdmomcpcolaa
