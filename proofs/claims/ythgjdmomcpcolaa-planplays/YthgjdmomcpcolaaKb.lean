/-
  Plan's law: the book in memory.
-/
import Derived.Test.YthgjdmomcpcolaaKa
namespace Go.Proofs.Ythgjdmomcpcolaa
open Go.RowKit
/-- A row of one number, that nobody writes into. -/
def One (W : World) (own : Nat → Nat) (x : Value) (m : Int) : Prop := ∃ g, x = .slice (some ⟨g, 0, none⟩) 1 1 ∧ own g = 6 ∧ W.cell? ⟨g, 0, none⟩ = some (.int .i64 m)
/-- A row that is all its mark. -/
def Ra (W : World) (own : Nat → Nat) (lab : Nat) (v : Value) (m : Int) : Prop := ∃ n, n ≤ 10000 ∧ Rw W 0 v (List.replicate n m) ∧ In (fun k => own k = lab) v
/-- A row of rows of one number, the mark. -/
def Oa (W : World) (own : Nat → Nat) (lab : Nat) (v : Value) (m : Int) : Prop := ∃ xs : List Value, xs.length ≤ 10000 ∧ W.ownsRow 0 23 1 v xs.length xs ∧ In (fun k => own k = lab) v ∧ ∀ x ∈ xs, One W own x m
section
variable {W W' : World} {own own' : Nat → Nat} {T : Nat → Prop} {lab lab' : Nat} {v : Value} {m : Int}
theorem One.move (h : One W own v m) (hm : Mv W W' T) (h6 : ∀ k, own k = 6 → ¬ T k ∧ own' k = 6) : One W' own' v m := by
  obtain ⟨g, h1, h2, h3⟩ := h
  exact ⟨g, h1, (h6 g h2).2, hm.cell h3 (h6 g h2).1⟩
theorem Ra.move (h : Ra W own lab v m) (hm : Mv W W' T) (hl : ∀ k, own k = lab → ¬ T k ∧ own' k = lab') : Ra W' own' lab' v m := by
  obtain ⟨n, h1, h2, h3⟩ := h
  exact ⟨n, h1, hm.own h2 (fun k e => (hl k (h3 k e)).1), fun k e => (hl k (h3 k e)).2⟩
theorem Oa.move (h : Oa W own lab v m) (hm : Mv W W' T) (hl : ∀ k, own k = lab → ¬ T k ∧ own' k = lab') (h6 : ∀ k, own k = 6 → ¬ T k ∧ own' k = 6) : Oa W' own' lab' v m := by
  obtain ⟨xs, h1, h2, h3, h4⟩ := h
  exact ⟨xs, h1, hm.own h2 (fun k e => (hl k (h3 k e)).1), fun k e => (hl k (h3 k e)).2, fun x hx => (h4 x hx).move hm h6⟩
end
/-- The book: its rows and their marks; those that P (R) names are yet to be grown. -/
structure Bl (W : World) (gb : Nat) (own : Nat → Nat) (vl vm vo vn : Value) (ls : List Value) (ms : List Int) (os : List Value) (ns : List Int) (ci cj : Nat) (P R : Nat → Bool) : Prop where
  cells : W.heap[gb]? = some (.cells #[vl, vm, vo, vn, .int .i64 (ci : Int), .int .i64 (cj : Int)] 35 (0, 0))
  gb1 : own gb = 1
  l : W.ownsRow 0 23 1 vl ls.length ls
  l2 : In (fun k => own k = 2) vl
  m : Rw W 0 vm ms
  m3 : In (fun k => own k = 3) vm
  o : W.ownsRow 0 32 1 vo os.length os
  o4 : In (fun k => own k = 4) vo
  n : Rw W 0 vn ns
  n5 : In (fun k => own k = 5) vn
  rows : ∀ q (h1 : q < ls.length) (h2 : q < ms.length), Ra W own (if P q then 2 * q + 8 else 6) ls[q] ms[q]
  orows : ∀ q (h1 : q < os.length) (h2 : q < ns.length), Oa W own (if R q then 2 * q + 9 else 6) os[q] ns[q]
  lt : ∀ k, own k ≠ 0 → k < W.heap.size
section
variable {W W' : World} {gb : Nat} {own own' : Nat → Nat} {vl vm vo vn : Value} {ls os : List Value} {ms ns : List Int} {ci cj : Nat} {P R : Nat → Bool} {T : Nat → Prop}
/-- What is not the book's may change. -/
theorem Bl.frame (h : Bl W gb own vl vm vo vn ls ms os ns ci cj P R) (hm : Mv W W' T) (hT : ∀ k, own k ≠ 0 → ¬ T k) : Bl W' gb own vl vm vo vn ls ms os ns ci cj P R where
  cells := hm.at h.cells (hT gb (by rw [h.gb1]; decide))
  gb1 := h.gb1
  l := hm.own h.l (fun k e => hT k (by rw [h.l2 k e]; decide))
  l2 := h.l2
  m := hm.own h.m (fun k e => hT k (by rw [h.m3 k e]; decide))
  m3 := h.m3
  o := hm.own h.o (fun k e => hT k (by rw [h.o4 k e]; decide))
  o4 := h.o4
  n := hm.own h.n (fun k e => hT k (by rw [h.n5 k e]; decide))
  n5 := h.n5
  rows := fun q h1 h2 => (h.rows q h1 h2).move hm (fun k e => ⟨hT k (by rw [e]; split <;> omega), e⟩)
  orows := fun q h1 h2 => (h.orows q h1 h2).move hm (fun k e => ⟨hT k (by rw [e]; split <;> omega), e⟩) (fun k e => ⟨hT k (by rw [e]; decide), e⟩)
  lt := fun k e => Nat.lt_of_lt_of_le (h.lt k e) hm.size
theorem Bl.later (h : Bl W gb own vl vm vo vn ls ms os ns ci cj P R) (hb : Below W.heap.size W W') : Bl W' gb own vl vm vo vn ls ms os ns ci cj P R := h.frame (Mv.of_below hb (fun _ => False)) (fun _ _ e => e)
theorem Bl.grown {r : Option Nat} (h : Bl W gb own vl vm vo vn ls ms os ns ci cj P R) (hg : W.grownBy W' r) (hT : ∀ k, own k ≠ 0 → r ≠ some k) : Bl W' gb own vl vm vo vn ls ms os ns ci cj P R :=
  h.frame (T := fun k => r = some k) ((Mv.refl W _).grown hg (fun _ _ e => e)) hT
theorem Bl.set (h : Bl W gb own vl vm vo vn ls ms os ns ci cj P R) {g k : Nat} (hg : own g = 0) (u : Value) : Bl (W.setCell ⟨g, k, none⟩ u) gb own vl vm vo vn ls ms os ns ci cj P R :=
  h.frame (T := fun q => q = g) (Mv.set (S := fun q => q = g) (Mv.refl W _) rfl k u) (fun q e x => e (by rw [x]; exact hg))
theorem set_size (W : World) (g k : Nat) (u : Value) : (W.setCell ⟨g, k, none⟩ u).heap.size = W.heap.size := by simp
/-- The labels, when a row of the book's has been put anew. -/
def lbl (own : Nat → Nat) (v : Value) (lab : Nat) : Nat → Nat := fun k => if v.ownBlock = some k then lab else own k
theorem lbl_own (own : Nat → Nat) (v : Value) (lab : Nat) : In (fun k => lbl own v lab k = lab) v := fun k e => by simp only [lbl, if_pos e]
theorem lbl_other {own : Nat → Nat} {v : Value} {lab k : Nat} (h : v.ownBlock ≠ some k) : lbl own v lab k = own k := by simp only [lbl, if_neg h]
theorem lbl_lt {W W' : World} {own : Nat → Nat} {v : Value} {lab : Nat} (h : ∀ k, own k ≠ 0 → k < W.heap.size) (hs : W.heap.size ≤ W'.heap.size) (hv : ∀ k, v.ownBlock = some k → k < W'.heap.size) : ∀ k, lbl own v lab k ≠ 0 → k < W'.heap.size := fun k e => by
  by_cases c : v.ownBlock = some k
  · exact hv k c
  · rw [lbl_other c] at e
    exact Nat.lt_of_lt_of_le (h k e) hs
/-- A field's row has come anew (it was appended to), and is laid into its cell. -/
theorem Mv.field {W1 : World} {v : Value} {gb f : Nat} {v' : Value} (hg : W.grownBy W1 v.ownBlock) : Mv W (W1.setCell ⟨gb, f, none⟩ v') (fun k => k = gb ∨ v.ownBlock = some k) :=
  Mv.set (S := fun k => k = gb ∨ v.ownBlock = some k) ((Mv.refl W _).grown hg (fun _ _ e => .inr e)) (.inl rfl) f v'
/-- Which blocks stay, and keep their labels. -/
theorem lbl_keep {v v' : Value} {gb F : Nat} (h1 : own gb = 1) (hF : In (fun k => own k = F) v) (hlt : ∀ k, own k ≠ 0 → k < W.heap.size) (hv : v'.ownBlock = v.ownBlock ∨ v'.ownBlock = some W.heap.size) {lab : Nat} (hl : lab ≠ 0) (hl1 : lab ≠ 1) (hlF : lab ≠ F) : ∀ k, own k = lab → ¬ (k = gb ∨ v.ownBlock = some k) ∧ lbl own v' F k = lab := fun k e => by
  have hnv : v.ownBlock ≠ some k := fun x => hlF (by rw [← e]; exact hF k x)
  refine ⟨fun x => x.elim (fun x => hl1 (by rw [← e, x, h1])) hnv, ?_⟩
  rw [lbl_other ?_, e]
  intro x
  rcases hv with c | c
  · exact hnv (c ▸ x)
  · rw [c] at x
    have := hlt k (by rw [e]; exact hl)
    simp only [Option.some.injEq] at x
    omega
theorem lbl_gb {v v' : Value} {gb F : Nat} (h1 : own gb = 1) (hF1 : F ≠ 1) (hF : In (fun k => own k = F) v) (hlt : ∀ k, own k ≠ 0 → k < W.heap.size) (hv : v'.ownBlock = v.ownBlock ∨ v'.ownBlock = some W.heap.size) : lbl own v' F gb = 1 := by
  rw [lbl_other ?_, h1]
  intro x
  rcases hv with c | c
  · rw [c] at x
    have := hF gb x
    omega
  · rw [c] at x
    have := hlt gb (by rw [h1]; decide)
    simp only [Option.some.injEq] at x
    omega
theorem own_ne_gb {W1 : World} {e s n f : Nat} {xs : List Value} {cs : Array Value} {v : Value} (h : W1.ownsRow 0 e s v n xs) (hc : W1.heap[f]? = some (.cells cs 35 (0, 0))) (he : e ≠ 35) : v.ownBlock ≠ some f := fun x => by
  obtain ⟨cur, hcur⟩ := own_block h x
  rw [hc] at hcur
  simp only [Option.some.injEq, Obj.cells.injEq] at hcur
  exact he hcur.2.1.symm
theorem label_ne {P : Nat → Bool} {q : Nat} : (if P q then 2 * q + 8 else 6) ≠ 0 ∧ (if P q then 2 * q + 8 else 6) ≠ 1 ∧ (if P q then 2 * q + 8 else 6) ≠ 2 ∧ (if P q then 2 * q + 8 else 6) ≠ 3 ∧ (if P q then 2 * q + 8 else 6) ≠ 4 ∧ (if P q then 2 * q + 8 else 6) ≠ 5 := by
  cases P q
  · simp
  · simp only [if_true]
    omega
theorem label_ne' {P : Nat → Bool} {q : Nat} : (if P q then 2 * q + 9 else 6) ≠ 0 ∧ (if P q then 2 * q + 9 else 6) ≠ 1 ∧ (if P q then 2 * q + 9 else 6) ≠ 2 ∧ (if P q then 2 * q + 9 else 6) ≠ 3 ∧ (if P q then 2 * q + 9 else 6) ≠ 4 ∧ (if P q then 2 * q + 9 else 6) ≠ 5 := by
  cases P q
  · simp
  · simp only [if_true]
    omega
/-- A row is put behind the rows. -/
theorem Bl.pushL {W1 : World} {vl' : Value} {xs : List Value} (h : Bl W gb own vl vm vo vn ls ms os ns ci cj P R) (hml : ms.length ≤ ls.length) (hg : W.grownBy W1 vl.ownBlock) (ho : W1.ownsRow 0 23 1 vl' (ls ++ xs).length (ls ++ xs)) (hv : vl'.ownBlock = vl.ownBlock ∨ vl'.ownBlock = some W.heap.size) :
    Bl (W1.setCell ⟨gb, 0, none⟩ vl') gb (lbl own vl' 2) vl' vm vo vn (ls ++ xs) ms os ns ci cj P R := by
  have hm := Mv.field (gb := gb) (f := 0) (v' := vl') hg
  have hc : W1.heap[gb]? = some (.cells #[vl, vm, vo, vn, .int .i64 (ci : Int), .int .i64 (cj : Int)] 35 (0, 0)) := (hg.block gb (lt_of_block h.cells) (fun e => by have := h.l2 gb e.symm; have := h.gb1; omega)).trans h.cells
  have hne := own_ne_gb ho hc (by decide)
  have kp := fun (lab : Nat) (a : lab ≠ 0) (b : lab ≠ 1) (c : lab ≠ 2) => lbl_keep (lab := lab) h.gb1 h.l2 h.lt hv a b c
  exact {
    cells := heap_setCell_same W1 gb 0 _ 35 vl' hc
    gb1 := lbl_gb h.gb1 (by decide) h.l2 h.lt hv
    l := own_set ho hne
    l2 := lbl_own _ _ _
    m := hm.own h.m (fun k e => (kp 3 (by decide) (by decide) (by decide) k (h.m3 k e)).1)
    m3 := fun k e => (kp 3 (by decide) (by decide) (by decide) k (h.m3 k e)).2
    o := hm.own h.o (fun k e => (kp 4 (by decide) (by decide) (by decide) k (h.o4 k e)).1)
    o4 := fun k e => (kp 4 (by decide) (by decide) (by decide) k (h.o4 k e)).2
    n := hm.own h.n (fun k e => (kp 5 (by decide) (by decide) (by decide) k (h.n5 k e)).1)
    n5 := fun k e => (kp 5 (by decide) (by decide) (by decide) k (h.n5 k e)).2
    rows := fun q h1 h2 => by
      have hq : q < ls.length := by omega
      rw [List.getElem_append_left hq]
      exact (h.rows q hq h2).move hm (kp _ label_ne.1 label_ne.2.1 label_ne.2.2.1)
    orows := fun q h1 h2 => (h.orows q h1 h2).move hm (kp _ label_ne'.1 label_ne'.2.1 label_ne'.2.2.1) (kp 6 (by decide) (by decide) (by decide))
    lt := lbl_lt h.lt hm.size (fun k e => by rw [set_size]; exact (ho.lt k e).2) }
/-- Its mark is put behind the marks: from now on it is one of the book's. -/
theorem Bl.pushM {W1 : World} {vm' v : Value} {m : Int} (h : Bl W gb own vl vm vo vn (ls ++ [v]) ms os ns ci cj P R) (hml : ms.length = ls.length) (hg : W.grownBy W1 vm.ownBlock) (ho : Rw W1 0 vm' (ms ++ [m])) (hv : vm'.ownBlock = vm.ownBlock ∨ vm'.ownBlock = some W.heap.size) {n : Nat} (hn : n ≤ 10000) (hr : Rw W 0 v (List.replicate n m)) (h0 : In (fun k => own k = 0) v) (hI : P ls.length = true) :
    Bl (W1.setCell ⟨gb, 1, none⟩ vm') gb (lbl (lbl own vm' 3) v (2 * ls.length + 8)) vl vm' vo vn (ls ++ [v]) (ms ++ [m]) os ns ci cj P R := by
  have hm := Mv.field (gb := gb) (f := 1) (v' := vm') hg
  have hc : W1.heap[gb]? = some (.cells #[vl, vm, vo, vn, .int .i64 (ci : Int), .int .i64 (cj : Int)] 35 (0, 0)) := (hg.block gb (lt_of_block h.cells) (fun e => by have := h.m3 gb e.symm; have := h.gb1; omega)).trans h.cells
  have hne := own_ne_gb ho hc (by decide)
  have kp := fun (lab : Nat) (a : lab ≠ 0) (b : lab ≠ 1) (c : lab ≠ 3) => lbl_keep (lab := lab) h.gb1 h.m3 h.lt hv a b c
  have hvb : ∀ k, v.ownBlock = some k → ¬ (k = gb ∨ vm.ownBlock = some k) := fun k e x => by
    have hk : own k = 0 := h0 k e
    rcases x with x | x
    · rw [x, h.gb1] at hk; cases hk
    · rw [h.m3 k x] at hk; cases hk
  have hvm : ∀ k, v.ownBlock = some k → vm'.ownBlock ≠ some k := fun k e x => by
    rcases hv with c | c
    · exact hvb k e (.inr (c ▸ x))
    · rw [c] at x
      have := (hr.lt k e).2
      simp only [Option.some.injEq] at x
      omega
  have kq : ∀ lab, lab ≠ 0 → lab ≠ 1 → lab ≠ 3 → ∀ k, own k = lab → ¬ (k = gb ∨ vm.ownBlock = some k) ∧ lbl (lbl own vm' 3) v (2 * ls.length + 8) k = lab := fun lab a b c k e => by
    refine ⟨(kp lab a b c k e).1, ?_⟩
    rw [lbl_other (fun x => a (by rw [← e]; exact h0 k x))]
    exact (kp lab a b c k e).2
  exact {
    cells := heap_setCell_same W1 gb 1 _ 35 vm' hc
    gb1 := by
      rw [lbl_other (fun x => by have := h0 gb x; have := h.gb1; omega)]
      exact lbl_gb h.gb1 (by decide) h.m3 h.lt hv
    l := hm.own h.l (fun k e => (kp 2 (by decide) (by decide) (by decide) k (h.l2 k e)).1)
    l2 := fun k e => (kq 2 (by decide) (by decide) (by decide) k (h.l2 k e)).2
    m := own_set ho hne
    m3 := fun k e => by
      show lbl (lbl own vm' 3) v (2 * ls.length + 8) k = 3
      rw [lbl_other (fun x => hvm k x e)]
      exact lbl_own _ _ _ k e
    o := hm.own h.o (fun k e => (kp 4 (by decide) (by decide) (by decide) k (h.o4 k e)).1)
    o4 := fun k e => (kq 4 (by decide) (by decide) (by decide) k (h.o4 k e)).2
    n := hm.own h.n (fun k e => (kp 5 (by decide) (by decide) (by decide) k (h.n5 k e)).1)
    n5 := fun k e => (kq 5 (by decide) (by decide) (by decide) k (h.n5 k e)).2
    rows := fun q h1 h2 => by
      by_cases hq : q < ls.length
      · have e1 : (ms ++ [m])[q] = ms[q]'(by omega) := List.getElem_append_left _
        rw [e1]
        exact (h.rows q h1 (by omega)).move hm (kq _ label_ne.1 label_ne.2.1 label_ne.2.2.2.1)
      · have e0 : q = ls.length := by simp at h1; omega
        subst e0
        rw [if_pos hI]
        have e1 : (ls ++ [v])[ls.length] = v := by simp
        have e2 : (ms ++ [m])[ls.length]'h2 = m := by simp [← hml]
        rw [e1, e2]
        exact ⟨n, hn, hm.own hr hvb, lbl_own _ _ _⟩
    orows := fun q h1 h2 => (h.orows q h1 h2).move hm (kq _ label_ne'.1 label_ne'.2.1 label_ne'.2.2.2.1) (kq 6 (by decide) (by decide) (by decide))
    lt := lbl_lt (lbl_lt h.lt hm.size (fun k e => by rw [set_size]; exact (ho.lt k e).2)) (Nat.le_refl _) (fun k e => Nat.lt_of_lt_of_le (hr.lt k e).2 hm.size) }
/-- A list of rows is put behind those. -/
theorem Bl.pushO {W1 : World} {vo' : Value} {xs : List Value} (h : Bl W gb own vl vm vo vn ls ms os ns ci cj P R) (hml : ns.length ≤ os.length) (hg : W.grownBy W1 vo.ownBlock) (ho : W1.ownsRow 0 32 1 vo' (os ++ xs).length (os ++ xs)) (hv : vo'.ownBlock = vo.ownBlock ∨ vo'.ownBlock = some W.heap.size) :
    Bl (W1.setCell ⟨gb, 2, none⟩ vo') gb (lbl own vo' 4) vl vm vo' vn ls ms (os ++ xs) ns ci cj P R := by
  have hm := Mv.field (gb := gb) (f := 2) (v' := vo') hg
  have hc : W1.heap[gb]? = some (.cells #[vl, vm, vo, vn, .int .i64 (ci : Int), .int .i64 (cj : Int)] 35 (0, 0)) := (hg.block gb (lt_of_block h.cells) (fun e => by have := h.o4 gb e.symm; have := h.gb1; omega)).trans h.cells
  have hne := own_ne_gb ho hc (by decide)
  have kp := fun (lab : Nat) (a : lab ≠ 0) (b : lab ≠ 1) (c : lab ≠ 4) => lbl_keep (lab := lab) h.gb1 h.o4 h.lt hv a b c
  exact {
    cells := heap_setCell_same W1 gb 2 _ 35 vo' hc
    gb1 := lbl_gb h.gb1 (by decide) h.o4 h.lt hv
    l := hm.own h.l (fun k e => (kp 2 (by decide) (by decide) (by decide) k (h.l2 k e)).1)
    l2 := fun k e => (kp 2 (by decide) (by decide) (by decide) k (h.l2 k e)).2
    m := hm.own h.m (fun k e => (kp 3 (by decide) (by decide) (by decide) k (h.m3 k e)).1)
    m3 := fun k e => (kp 3 (by decide) (by decide) (by decide) k (h.m3 k e)).2
    o := own_set ho hne
    o4 := lbl_own _ _ _
    n := hm.own h.n (fun k e => (kp 5 (by decide) (by decide) (by decide) k (h.n5 k e)).1)
    n5 := fun k e => (kp 5 (by decide) (by decide) (by decide) k (h.n5 k e)).2
    rows := fun q h1 h2 => (h.rows q h1 h2).move hm (kp _ label_ne.1 label_ne.2.1 label_ne.2.2.2.2.1)
    orows := fun q h1 h2 => by
      have hq : q < os.length := by omega
      rw [List.getElem_append_left hq]
      exact (h.orows q hq h2).move hm (kp _ label_ne'.1 label_ne'.2.1 label_ne'.2.2.2.2.1) (kp 6 (by decide) (by decide) (by decide))
    lt := lbl_lt h.lt hm.size (fun k e => by rw [set_size]; exact (ho.lt k e).2) }
/-- The labels of the rows of one number in a list. -/
theorem Bl.pushN {W1 : World} {vn' v : Value} {m : Int} (h : Bl W gb own vl vm vo vn ls ms (os ++ [v]) ns ci cj P R) (hml : ns.length = os.length) (hg : W.grownBy W1 vn.ownBlock) (ho : Rw W1 0 vn' (ns ++ [m])) (hv : vn'.ownBlock = vn.ownBlock ∨ vn'.ownBlock = some W.heap.size) {xs : List Value} (hn : xs.length ≤ 10000) (hr : W.ownsRow 0 23 1 v xs.length xs) (h0 : In (fun k => own k = 0) v) (hx : ∀ x ∈ xs, One W own x m) (hJ : R os.length = true) :
    Bl (W1.setCell ⟨gb, 3, none⟩ vn') gb (lbl (lbl own vn' 5) v (2 * os.length + 9)) vl vm vo vn' ls ms (os ++ [v]) (ns ++ [m]) ci cj P R := by
  have hm := Mv.field (gb := gb) (f := 3) (v' := vn') hg
  have hc : W1.heap[gb]? = some (.cells #[vl, vm, vo, vn, .int .i64 (ci : Int), .int .i64 (cj : Int)] 35 (0, 0)) := (hg.block gb (lt_of_block h.cells) (fun e => by have := h.n5 gb e.symm; have := h.gb1; omega)).trans h.cells
  have hne := own_ne_gb ho hc (by decide)
  have kp := fun (lab : Nat) (a : lab ≠ 0) (b : lab ≠ 1) (c : lab ≠ 5) => lbl_keep (lab := lab) h.gb1 h.n5 h.lt hv a b c
  have hvb : ∀ k, v.ownBlock = some k → ¬ (k = gb ∨ vn.ownBlock = some k) := fun k e x => by
    have hk : own k = 0 := h0 k e
    rcases x with x | x
    · rw [x, h.gb1] at hk; cases hk
    · rw [h.n5 k x] at hk; cases hk
  have hvm : ∀ k, v.ownBlock = some k → vn'.ownBlock ≠ some k := fun k e x => by
    rcases hv with c | c
    · exact hvb k e (.inr (c ▸ x))
    · rw [c] at x
      have := (hr.lt k e).2
      simp only [Option.some.injEq] at x
      omega
  have kq : ∀ lab, lab ≠ 0 → lab ≠ 1 → lab ≠ 5 → ∀ k, own k = lab → ¬ (k = gb ∨ vn.ownBlock = some k) ∧ lbl (lbl own vn' 5) v (2 * os.length + 9) k = lab := fun lab a b c k e => by
    refine ⟨(kp lab a b c k e).1, ?_⟩
    rw [lbl_other (fun x => a (by rw [← e]; exact h0 k x))]
    exact (kp lab a b c k e).2
  exact {
    cells := heap_setCell_same W1 gb 3 _ 35 vn' hc
    gb1 := by
      rw [lbl_other (fun x => by have := h0 gb x; have := h.gb1; omega)]
      exact lbl_gb h.gb1 (by decide) h.n5 h.lt hv
    l := hm.own h.l (fun k e => (kp 2 (by decide) (by decide) (by decide) k (h.l2 k e)).1)
    l2 := fun k e => (kq 2 (by decide) (by decide) (by decide) k (h.l2 k e)).2
    m := hm.own h.m (fun k e => (kp 3 (by decide) (by decide) (by decide) k (h.m3 k e)).1)
    m3 := fun k e => (kq 3 (by decide) (by decide) (by decide) k (h.m3 k e)).2
    o := hm.own h.o (fun k e => (kp 4 (by decide) (by decide) (by decide) k (h.o4 k e)).1)
    o4 := fun k e => (kq 4 (by decide) (by decide) (by decide) k (h.o4 k e)).2
    n := own_set ho hne
    n5 := fun k e => by
      show lbl (lbl own vn' 5) v (2 * os.length + 9) k = 5
      rw [lbl_other (fun x => hvm k x e)]
      exact lbl_own _ _ _ k e
    rows := fun q h1 h2 => (h.rows q h1 h2).move hm (kq _ label_ne.1 label_ne.2.1 label_ne.2.2.2.2.2)
    orows := fun q h1 h2 => by
      by_cases hq : q < os.length
      · have e1 : (ns ++ [m])[q] = ns[q]'(by omega) := List.getElem_append_left _
        rw [e1]
        exact (h.orows q h1 (by omega)).move hm (kq _ label_ne'.1 label_ne'.2.1 label_ne'.2.2.2.2.2) (kq 6 (by decide) (by decide) (by decide))
      · have e0 : q = os.length := by simp at h1; omega
        subst e0
        rw [if_pos hJ]
        have e1 : (os ++ [v])[os.length] = v := by simp
        have e2 : (ns ++ [m])[os.length]'h2 = m := by simp [← hml]
        rw [e1, e2]
        exact ⟨xs, hn, hm.own hr hvb, lbl_own _ _ _, fun x hx' => (hx x hx').move hm (kq 6 (by decide) (by decide) (by decide))⟩
    lt := lbl_lt (lbl_lt h.lt hm.size (fun k e => by rw [set_size]; exact (ho.lt k e).2)) (Nat.le_refl _) (fun k e => Nat.lt_of_lt_of_le (hr.lt k e).2 hm.size) }
end
end Go.Proofs.Ythgjdmomcpcolaa
