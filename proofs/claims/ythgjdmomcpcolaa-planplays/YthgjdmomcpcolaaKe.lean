/-
  Plan's law: the book's rows grow (what is left of the book meanwhile).
-/
import Derived.Test.YthgjdmomcpcolaaKd
namespace Go.Proofs.Ythgjdmomcpcolaa
open Go.RowKit
set_option maxRecDepth 100000
theorem own_caps {W : World} {B e n c B' e' n' c' g : Nat} {xs xs' : List Value} (h : W.ownsRow B e 1 (.slice (some ⟨g, 0, none⟩) n c) n xs) (h' : W.ownsRow B' e' 1 (.slice (some ⟨g, 0, none⟩) n' c') n' xs') : c = c' := by
  rcases h.2 with ⟨e1, _⟩ | ⟨g1, c1, cur1, e1, _, hg1, _, _, hs1, _⟩
  · cases e1
  · rcases h'.2 with ⟨e2, _⟩ | ⟨g2, c2, cur2, e2, _, hg2, _, _, hs2, _⟩
    · cases e2
    · simp only [Value.slice.injEq, Option.some.injEq, Addr.mk.injEq, and_true, true_and] at e1 e2
      obtain ⟨rfl, rfl⟩ := e1
      obtain ⟨rfl, rfl⟩ := e2
      rw [hg1] at hg2
      simp only [Option.some.injEq, Obj.cells.injEq] at hg2
      rw [hg2.1, hs2] at hs1
      omega
/-- A row within one that begins with it, of the same block. -/
theorem own_within {W W' : World} {e n n2 : Nat} {v u : Value} {xs ys : List Value} (hv : W.ownsRow 0 e 1 v n xs) (hu : W.ownsRow 0 e 1 u n2 ys) (hu' : W'.ownsRow 0 e 1 u n2 ys) (hb : v.ownBlock = u.ownBlock) (hn : n ≤ n2) (h0 : 0 < n2 → u.ownBlock ≠ none) : W'.ownsRow 0 e 1 v n (ys.take n) := by
  rcases hv.2 with ⟨rfl, rfl⟩ | ⟨g, c, cur, rfl, _⟩
  · exact ⟨by simp, .inl ⟨rfl, rfl⟩⟩
  · rcases hu.2 with ⟨rfl, rfl⟩ | ⟨g2, c2, cur2, rfl, _⟩
    · simp [Value.ownBlock] at hb
    · simp only [Value.ownBlock, Option.some.injEq] at hb
      subst hb
      have := own_caps hv hu
      subst this
      have := own_prefix hu' hn
      rwa [Nat.mul_one] at this
section
variable {W W' : World} {gb : Nat} {own own' : Nat → Nat} {vl vm vo vn : Value} {ls os : List Value} {ms ns : List Int} {ci cj : Nat} {P R P' R' : Nat → Bool}
/-- Other rows may be named. -/
theorem Bl.names (h : Bl W gb own vl vm vo vn ls ms os ns ci cj P R) (hP : ∀ q, q < ls.length → P q = P' q) (hR : ∀ q, q < os.length → R q = R' q) : Bl W gb own vl vm vo vn ls ms os ns ci cj P' R' :=
  { h with
    rows := fun q h1 h2 => by rw [← hP q h1]; exact h.rows q h1 h2
    orows := fun q h1 h2 => by rw [← hR q h1]; exact h.orows q h1 h2 }
/-- The block of a row that is named grows. -/
theorem Bl.growL {i : Nat} {r : Option Nat} (h : Bl W gb own vl vm vo vn ls ms os ns ci cj P R) (hg : W.grownBy W' r) (hr : ∀ k, r = some k → own k = 2 * i + 8 ∨ own k = 0) (hi : ∀ (h1 : i < ls.length) (h2 : i < ms.length), Ra W' own (if P i then 2 * i + 8 else 6) ls[i] ms[i]) : Bl W' gb own vl vm vo vn ls ms os ns ci cj P R := by
  have hm : Mv W W' (fun k => r = some k) := (Mv.refl W _).grown hg (fun _ _ e => e)
  have kp : ∀ lab, lab ≠ 0 → lab ≠ 2 * i + 8 → ∀ k, own k = lab → ¬ r = some k ∧ own k = lab := fun lab h0 h1 k e => ⟨fun x => (hr k x).elim (fun y => h1 (by rw [← e, y])) (fun y => h0 (by rw [← e, y])), e⟩
  exact {
    cells := hm.at h.cells (kp 1 (by decide) (by omega) gb h.gb1).1
    gb1 := h.gb1
    l := hm.own h.l (fun k e => (kp 2 (by decide) (by omega) k (h.l2 k e)).1)
    l2 := h.l2
    m := hm.own h.m (fun k e => (kp 3 (by decide) (by omega) k (h.m3 k e)).1)
    m3 := h.m3
    o := hm.own h.o (fun k e => (kp 4 (by decide) (by omega) k (h.o4 k e)).1)
    o4 := h.o4
    n := hm.own h.n (fun k e => (kp 5 (by decide) (by omega) k (h.n5 k e)).1)
    n5 := h.n5
    rows := fun q h1 h2 => by
      by_cases c : q = i
      · subst c
        exact hi h1 h2
      · exact (h.rows q h1 h2).move hm (kp _ label_ne.1 (by cases P q <;> simp <;> omega))
    orows := fun q h1 h2 => (h.orows q h1 h2).move hm (kp _ label_ne'.1 (by cases R q <;> simp <;> omega)) (kp 6 (by decide) (by omega))
    lt := fun k e => Nat.lt_of_lt_of_le (h.lt k e) hm.size }
theorem Bl.growO {i : Nat} {r : Option Nat} (h : Bl W gb own vl vm vo vn ls ms os ns ci cj P R) (hg : W.grownBy W' r) (hr : ∀ k, r = some k → own k = 2 * i + 9 ∨ own k = 0) (hi : ∀ (h1 : i < os.length) (h2 : i < ns.length), Oa W' own (if R i then 2 * i + 9 else 6) os[i] ns[i]) : Bl W' gb own vl vm vo vn ls ms os ns ci cj P R := by
  have hm : Mv W W' (fun k => r = some k) := (Mv.refl W _).grown hg (fun _ _ e => e)
  have kp : ∀ lab, lab ≠ 0 → lab ≠ 2 * i + 9 → ∀ k, own k = lab → ¬ r = some k ∧ own k = lab := fun lab h0 h1 k e => ⟨fun x => (hr k x).elim (fun y => h1 (by rw [← e, y])) (fun y => h0 (by rw [← e, y])), e⟩
  exact {
    cells := hm.at h.cells (kp 1 (by decide) (by omega) gb h.gb1).1
    gb1 := h.gb1
    l := hm.own h.l (fun k e => (kp 2 (by decide) (by omega) k (h.l2 k e)).1)
    l2 := h.l2
    m := hm.own h.m (fun k e => (kp 3 (by decide) (by omega) k (h.m3 k e)).1)
    m3 := h.m3
    o := hm.own h.o (fun k e => (kp 4 (by decide) (by omega) k (h.o4 k e)).1)
    o4 := h.o4
    n := hm.own h.n (fun k e => (kp 5 (by decide) (by omega) k (h.n5 k e)).1)
    n5 := h.n5
    rows := fun q h1 h2 => (h.rows q h1 h2).move hm (kp _ label_ne.1 (by cases P q <;> simp <;> omega))
    orows := fun q h1 h2 => by
      by_cases c : q = i
      · subst c
        exact hi h1 h2
      · exact (h.orows q h1 h2).move hm (kp _ label_ne'.1 (by cases R q <;> simp <;> omega)) (kp 6 (by decide) (by omega))
    lt := fun k e => Nat.lt_of_lt_of_le (h.lt k e) hm.size }
/-- A label and a value's block are done with. -/
def dn (own : Nat → Nat) (lab : Nat) (v : Value) : Nat → Nat := fun k => if own k = lab ∨ v.ownBlock = some k then 6 else own k
theorem dn_own {v : Value} {lab : Nat} : In (fun k => dn own lab v k = 6) v := fun k e => by simp only [dn, if_pos (Or.inr e)]
theorem dn_lab {v : Value} {lab k : Nat} (h : own k = lab) : dn own lab v k = 6 := by simp only [dn, if_pos (Or.inl h)]
theorem dn_other {v : Value} {lab x : Nat} (hv : ∀ k, v.ownBlock = some k → own k = lab ∨ own k = 0) (h0 : x ≠ 0) (h1 : x ≠ lab) : ∀ k, own k = x → ¬ False ∧ dn own lab v k = x := fun k e => ⟨id, by
  have : ¬ (own k = lab ∨ v.ownBlock = some k) := fun y => y.elim (fun y => h1 (by rw [← e, y])) (fun y => (hv k y).elim (fun y => h1 (by rw [← e, y])) (fun y => h0 (by rw [← e, y])))
  unfold dn
  rw [if_neg this]
  exact e⟩
theorem dn_from {v : Value} {lab : Nat} : ∀ k, dn own lab v k ≠ 0 → own k ≠ 0 ∨ own k = lab ∨ v.ownBlock = some k := fun k e => by
  by_cases c : own k = lab ∨ v.ownBlock = some k
  · exact .inr c
  · simp only [dn, if_neg c] at e
    exact .inl e
theorem Bl.doneL {i : Nat} {v : Value} (h : Bl W gb own vl vm vo vn ls ms os ns ci cj P R) (hv : ∀ k, v.ownBlock = some k → own k = 2 * i + 8 ∨ own k = 0) (hlt : ∀ k, v.ownBlock = some k → k < W.heap.size) (hP : ∀ q, q ≠ i → P q = P' q) (hi : P i = true) (hi' : P' i = false) : Bl W gb (dn own (2 * i + 8) v) vl vm vo vn ls ms os ns ci cj P' R := by
  have kp := fun (x : Nat) (h0 : x ≠ 0) (h1 : x ≠ 2 * i + 8) => dn_other (own := own) hv h0 h1
  have hm := Mv.refl W (fun _ => False)
  exact {
    cells := h.cells
    gb1 := (kp 1 (by decide) (by omega) gb h.gb1).2
    l := h.l
    l2 := fun k e => (kp 2 (by decide) (by omega) k (h.l2 k e)).2
    m := h.m
    m3 := fun k e => (kp 3 (by decide) (by omega) k (h.m3 k e)).2
    o := h.o
    o4 := fun k e => (kp 4 (by decide) (by omega) k (h.o4 k e)).2
    n := h.n
    n5 := fun k e => (kp 5 (by decide) (by omega) k (h.n5 k e)).2
    rows := fun q h1 h2 => by
      by_cases c : q = i
      · subst c
        have := h.rows q h1 h2
        rw [hi, if_pos rfl] at this
        rw [hi', if_neg (by decide)]
        exact this.move hm (fun k e => ⟨id, dn_lab e⟩)
      · rw [← hP q c]
        exact (h.rows q h1 h2).move hm (kp _ label_ne.1 (by cases P q <;> simp <;> omega))
    orows := fun q h1 h2 => (h.orows q h1 h2).move hm (kp _ label_ne'.1 (by cases R q <;> simp <;> omega)) (kp 6 (by decide) (by omega))
    lt := fun k e => by
      rcases dn_from k e with c | c | c
      · exact h.lt k c
      · exact h.lt k (by omega)
      · exact hlt k c }
theorem Bl.doneO {i : Nat} {v : Value} (h : Bl W gb own vl vm vo vn ls ms os ns ci cj P R) (hv : ∀ k, v.ownBlock = some k → own k = 2 * i + 9 ∨ own k = 0) (hlt : ∀ k, v.ownBlock = some k → k < W.heap.size) (hR : ∀ q, q ≠ i → R q = R' q) (hi : R i = true) (hi' : R' i = false) : Bl W gb (dn own (2 * i + 9) v) vl vm vo vn ls ms os ns ci cj P R' := by
  have kp := fun (x : Nat) (h0 : x ≠ 0) (h1 : x ≠ 2 * i + 9) => dn_other (own := own) hv h0 h1
  have hm := Mv.refl W (fun _ => False)
  exact {
    cells := h.cells
    gb1 := (kp 1 (by decide) (by omega) gb h.gb1).2
    l := h.l
    l2 := fun k e => (kp 2 (by decide) (by omega) k (h.l2 k e)).2
    m := h.m
    m3 := fun k e => (kp 3 (by decide) (by omega) k (h.m3 k e)).2
    o := h.o
    o4 := fun k e => (kp 4 (by decide) (by omega) k (h.o4 k e)).2
    n := h.n
    n5 := fun k e => (kp 5 (by decide) (by omega) k (h.n5 k e)).2
    rows := fun q h1 h2 => (h.rows q h1 h2).move hm (kp _ label_ne.1 (by cases P q <;> simp <;> omega))
    orows := fun q h1 h2 => by
      by_cases c : q = i
      · subst c
        have := h.orows q h1 h2
        rw [hi, if_pos rfl] at this
        rw [hi', if_neg (by decide)]
        exact this.move hm (fun k e => ⟨id, dn_lab e⟩) (kp 6 (by decide) (by omega))
      · rw [← hR q c]
        exact (h.orows q h1 h2).move hm (kp _ label_ne'.1 (by cases R q <;> simp <;> omega)) (kp 6 (by decide) (by omega))
    lt := fun k e => by
      rcases dn_from k e with c | c | c
      · exact h.lt k c
      · exact h.lt k (by omega)
      · exact hlt k c }
/-- The mark of a row that is done with. -/
theorem Bl.pushM6 {W1 : World} {vm' v : Value} {m : Int} (h : Bl W gb own vl vm vo vn (ls ++ [v]) ms os ns ci cj P R) (hml : ms.length = ls.length) (hg : W.grownBy W1 vm.ownBlock) (ho : Rw W1 0 vm' (ms ++ [m])) (hv : vm'.ownBlock = vm.ownBlock ∨ vm'.ownBlock = some W.heap.size) {n : Nat} (hn : n ≤ 10000) (hr : Rw W 0 v (List.replicate n m)) (h6 : In (fun k => own k = 6) v) (hP : P ls.length = false) :
    Bl (W1.setCell ⟨gb, 1, none⟩ vm') gb (lbl own vm' 3) vl vm' vo vn (ls ++ [v]) (ms ++ [m]) os ns ci cj P R := by
  have hm := Mv.field (gb := gb) (f := 1) (v' := vm') hg
  have hc : W1.heap[gb]? = some (.cells #[vl, vm, vo, vn, .int .i64 (ci : Int), .int .i64 (cj : Int)] 35 (0, 0)) := (hg.block gb (lt_of_block h.cells) (fun e => by have := h.m3 gb e.symm; have := h.gb1; omega)).trans h.cells
  have hne := own_ne_gb ho hc (by decide)
  have kp := fun (lab : Nat) (a : lab ≠ 0) (b : lab ≠ 1) (c : lab ≠ 3) => lbl_keep (lab := lab) h.gb1 h.m3 h.lt hv a b c
  exact {
    cells := heap_setCell_same W1 gb 1 _ 35 vm' hc
    gb1 := lbl_gb h.gb1 (by decide) h.m3 h.lt hv
    l := hm.own h.l (fun k e => (kp 2 (by decide) (by decide) (by decide) k (h.l2 k e)).1)
    l2 := fun k e => (kp 2 (by decide) (by decide) (by decide) k (h.l2 k e)).2
    m := own_set ho hne
    m3 := lbl_own _ _ _
    o := hm.own h.o (fun k e => (kp 4 (by decide) (by decide) (by decide) k (h.o4 k e)).1)
    o4 := fun k e => (kp 4 (by decide) (by decide) (by decide) k (h.o4 k e)).2
    n := hm.own h.n (fun k e => (kp 5 (by decide) (by decide) (by decide) k (h.n5 k e)).1)
    n5 := fun k e => (kp 5 (by decide) (by decide) (by decide) k (h.n5 k e)).2
    rows := fun q h1 h2 => by
      by_cases hq : q < ls.length
      · have e1 : (ms ++ [m])[q] = ms[q]'(by omega) := List.getElem_append_left _
        rw [e1]
        exact (h.rows q h1 (by omega)).move hm (kp _ label_ne.1 label_ne.2.1 label_ne.2.2.2.1)
      · have e0 : q = ls.length := by simp at h1; omega
        subst e0
        rw [hP, if_neg (by decide)]
        have e1 : (ls ++ [v])[ls.length] = v := by simp
        have e2 : (ms ++ [m])[ls.length]'h2 = m := by simp [← hml]
        rw [e1, e2]
        exact Ra.move ⟨n, hn, hr, h6⟩ hm (kp 6 (by decide) (by decide) (by decide))
    orows := fun q h1 h2 => (h.orows q h1 h2).move hm (kp _ label_ne'.1 label_ne'.2.1 label_ne'.2.2.2.1) (kp 6 (by decide) (by decide) (by decide))
    lt := lbl_lt h.lt hm.size (fun k e => by rw [set_size]; exact (ho.lt k e).2) }
theorem Bl.pushN6 {W1 : World} {vn' v : Value} {m : Int} (h : Bl W gb own vl vm vo vn ls ms (os ++ [v]) ns ci cj P R) (hml : ns.length = os.length) (hg : W.grownBy W1 vn.ownBlock) (ho : Rw W1 0 vn' (ns ++ [m])) (hv : vn'.ownBlock = vn.ownBlock ∨ vn'.ownBlock = some W.heap.size) (h6 : Oa W own 6 v m) (hR : R os.length = false) :
    Bl (W1.setCell ⟨gb, 3, none⟩ vn') gb (lbl own vn' 5) vl vm vo vn' ls ms (os ++ [v]) (ns ++ [m]) ci cj P R := by
  have hm := Mv.field (gb := gb) (f := 3) (v' := vn') hg
  have hc : W1.heap[gb]? = some (.cells #[vl, vm, vo, vn, .int .i64 (ci : Int), .int .i64 (cj : Int)] 35 (0, 0)) := (hg.block gb (lt_of_block h.cells) (fun e => by have := h.n5 gb e.symm; have := h.gb1; omega)).trans h.cells
  have hne := own_ne_gb ho hc (by decide)
  have kp := fun (lab : Nat) (a : lab ≠ 0) (b : lab ≠ 1) (c : lab ≠ 5) => lbl_keep (lab := lab) h.gb1 h.n5 h.lt hv a b c
  exact {
    cells := heap_setCell_same W1 gb 3 _ 35 vn' hc
    gb1 := lbl_gb h.gb1 (by decide) h.n5 h.lt hv
    l := hm.own h.l (fun k e => (kp 2 (by decide) (by decide) (by decide) k (h.l2 k e)).1)
    l2 := fun k e => (kp 2 (by decide) (by decide) (by decide) k (h.l2 k e)).2
    m := hm.own h.m (fun k e => (kp 3 (by decide) (by decide) (by decide) k (h.m3 k e)).1)
    m3 := fun k e => (kp 3 (by decide) (by decide) (by decide) k (h.m3 k e)).2
    o := hm.own h.o (fun k e => (kp 4 (by decide) (by decide) (by decide) k (h.o4 k e)).1)
    o4 := fun k e => (kp 4 (by decide) (by decide) (by decide) k (h.o4 k e)).2
    n := own_set ho hne
    n5 := lbl_own _ _ _
    rows := fun q h1 h2 => (h.rows q h1 h2).move hm (kp _ label_ne.1 label_ne.2.1 label_ne.2.2.2.2.2)
    orows := fun q h1 h2 => by
      by_cases hq : q < os.length
      · have e1 : (ns ++ [m])[q] = ns[q]'(by omega) := List.getElem_append_left _
        rw [e1]
        exact (h.orows q h1 (by omega)).move hm (kp _ label_ne'.1 label_ne'.2.1 label_ne'.2.2.2.2.2) (kp 6 (by decide) (by decide) (by decide))
      · have e0 : q = os.length := by simp at h1; omega
        subst e0
        rw [hR, if_neg (by decide)]
        have e1 : (os ++ [v])[os.length] = v := by simp
        have e2 : (ns ++ [m])[os.length]'h2 = m := by simp [← hml]
        rw [e1, e2]
        exact h6.move hm (kp 6 (by decide) (by decide) (by decide)) (kp 6 (by decide) (by decide) (by decide))
    lt := lbl_lt h.lt hm.size (fun k e => by rw [set_size]; exact (ho.lt k e).2) }
end
end Go.Proofs.Ythgjdmomcpcolaa
