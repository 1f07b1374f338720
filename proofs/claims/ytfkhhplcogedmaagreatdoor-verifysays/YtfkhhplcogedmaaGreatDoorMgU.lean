import Derived.Test.YtfkhhplcogedmaaGreatDoorMgS
/-
  Verify: a program of one's own in memory.
-/
namespace Go.Proofs.YtfkhhplcogedmaaGreatDoor
open Go.RowKit
set_option maxRecDepth 100000
/-- A system's lists. -/
structure Lv where
  v1 : Value
  v2 : Value
  v3 : Value
  v4 : Value
  vc : Value
def lvC (x : Sy × Lv) : List Value := [x.2.v1, x.2.v2, x.2.v3, x.2.v4, .string x.1.run.name, .int .i64 x.1.run.pa, .int .i64 x.1.run.lo, x.2.vc]
def rwC (x : Rt × Value) : List Value := [.string x.1.name, .int .i64 x.1.pa, .int .i64 x.1.lo, x.2]
theorem lvC_len (x : Sy × Lv) : (lvC x).length = 8 := rfl
theorem rwC_len (x : Rt × Value) : (rwC x).length = 4 := rfl
/-- A block of a list. -/
def Li (N : Nat) (W : World) (j : Nat) : Prop := Lk 3 N W j ∨ Lk 28 N W j
section
variable {N : Nat} {W W' : World} {S : Nat → Prop}
theorem Lk.mv {e j : Nat} (h : Lk e N W j) (hm : Mv W W' S) (hs : ¬ S j) : Lk e N W' j := by
  obtain ⟨h1, cs, h2⟩ := h
  exact ⟨h1, cs, hm.at h2 hs⟩
theorem Li.mv {j : Nat} (h : Li N W j) (hm : Mv W W' S) (hs : ¬ S j) : Li N W' j := h.elim (fun h => .inl (h.mv hm hs)) (fun h => .inr (h.mv hm hs))
theorem Li.not {j e B s n : Nat} {v : Value} {xs : List Value} (h : Li N W j) (ho : W.ownsRow B e s v n xs) (h1 : e ≠ 3) (h2 : e ≠ 28) : ¬ v.ownBlock = some j := fun e' => by
  obtain ⟨cs, hc⟩ := own_blk2 ho e'
  rcases h with ⟨-, ds, hd⟩ | ⟨-, ds, hd⟩ <;> rw [hc] at hd <;> injection hd with hd <;> injection hd with hd hd2
  · exact h1 hd2
  · exact h2 hd2
theorem Nl.li {v : Value} {l : List Int} (h : Nl (Li N W) W v l) (hm : Mv W W' S) (hs : ∀ j, Li N W j → ¬ S j) : Nl (Li N W') W' v l := by
  obtain ⟨ao, c, h1, h2, h3, h4⟩ := h
  refine ⟨ao, c, h1, h2, h3, fun h0 => ?_⟩
  obtain ⟨g, o, h5, h6, h7⟩ := h4 h0
  refine ⟨g, o, h5, h6.mv hm (hs g h6), fun i hi => ?_⟩
  obtain ⟨a, b⟩ := h7 i hi
  exact ⟨a, hm.cell b (hs g h6)⟩
theorem Il.li {v : Value} {l : List Ins} (h : Il (Li N W) W v l) (hm : Mv W W' S) (hs : ∀ j, Li N W j → ¬ S j) : Il (Li N W') W' v l := by
  obtain ⟨ao, c, h1, h2, h3, h4⟩ := h
  refine ⟨ao, c, h1, h2, h3, fun h0 => ?_⟩
  obtain ⟨g, o, h5, h6, h7⟩ := h4 h0
  refine ⟨g, o, h5, h6.mv hm (hs g h6), fun i hi => ?_⟩
  obtain ⟨a, b, c, d⟩ := h7 i hi
  exact ⟨a, b, hm.cell c (hs g h6), hm.cell d (hs g h6)⟩
structure SyL (N : Nat) (W : World) (x : Sy × Lv) : Prop where
  pa : I6 x.1.run.pa
  lo : I6 x.1.run.lo
  wi : Nl (Li N W) W x.2.v1 x.1.wi
  wo : Nl (Li N W) W x.2.v2 x.1.wo
  re : Nl (Li N W) W x.2.v3 x.1.re
  wr : Nl (Li N W) W x.2.v4 x.1.wr
  co : Il (Li N W) W x.2.vc x.1.run.code
structure RtL (N : Nat) (W : World) (x : Rt × Value) : Prop where
  pa : I6 x.1.pa
  lo : I6 x.1.lo
  co : Il (Li N W) W x.2 x.1.code
theorem SyL.mv {x : Sy × Lv} (h : SyL N W x) (hm : Mv W W' S) (hs : ∀ j, Li N W j → ¬ S j) : SyL N W' x := ⟨h.pa, h.lo, h.wi.li hm hs, h.wo.li hm hs, h.re.li hm hs, h.wr.li hm hs, h.co.li hm hs⟩
theorem RtL.mv {x : Rt × Value} (h : RtL N W x) (hm : Mv W W' S) (hs : ∀ j, Li N W j → ¬ S j) : RtL N W' x := ⟨h.pa, h.lo, h.co.li hm hs⟩
theorem Nl.oc {Q : Nat → Prop} {v : Value} {l : List Int} (h : Nl Q W v l) : v.oneCell' = true := by
  obtain ⟨ao, c, rfl, -⟩ := h
  rfl
theorem Il.oc {Q : Nat → Prop} {v : Value} {l : List Ins} (h : Il Q W v l) : v.oneCell' = true := by
  obtain ⟨ao, c, rfl, -⟩ := h
  rfl
theorem SyL.one {x : Sy × Lv} (h : SyL N W x) : ∀ u ∈ lvC x, u.oneCell' = true := fun u hu => by
  simp only [lvC, List.mem_cons, List.not_mem_nil, or_false] at hu
  rcases hu with rfl | rfl | rfl | rfl | rfl | rfl | rfl | rfl
  · exact h.wi.oc
  · exact h.wo.oc
  · exact h.re.oc
  · exact h.wr.oc
  · rfl
  · rfl
  · rfl
  · exact h.co.oc
theorem RtL.one {x : Rt × Value} (h : RtL N W x) : ∀ u ∈ rwC x, u.oneCell' = true := fun u hu => by
  simp only [rwC, List.mem_cons, List.not_mem_nil, or_false] at hu
  rcases hu with rfl | rfl | rfl | rfl
  · rfl
  · rfl
  · rfl
  · exact h.co.oc
/-- The systems. -/
structure LS (N : Nat) (W : World) (vs : Value) (ls : List (Sy × Lv)) : Prop where
  row : W.ownsRow N 38 8 vs ls.length (fl lvC ls)
  all : ∀ x ∈ ls, SyL N W x
structure LF (N : Nat) (W : World) (vf : Value) (lf : List (Rt × Value)) : Prop where
  row : W.ownsRow N 35 4 vf lf.length (fl rwC lf)
  all : ∀ x ∈ lf, RtL N W x
variable {vs vf v' : Value} {ls : List (Sy × Lv)} {lf : List (Rt × Value)}
theorem LS.mv (h : LS N W vs ls) (hm : Mv W W' S) (hs : ∀ j, Li N W j → ¬ S j) (hv : ∀ j, vs.ownBlock = some j → ¬ S j) : LS N W' vs ls := ⟨hm.own h.row hv, fun x hx => (h.all x hx).mv hm hs⟩
theorem LF.mv (h : LF N W vf lf) (hm : Mv W W' S) (hs : ∀ j, Li N W j → ¬ S j) (hv : ∀ j, vf.ownBlock = some j → ¬ S j) : LF N W' vf lf := ⟨hm.own h.row hv, fun x hx => (h.all x hx).mv hm hs⟩
theorem LS.later (h : LS N W vs ls) (hb : Below W.heap.size W W') : LS N W' vs ls := h.mv (Mv.of_below hb (fun _ => False)) (fun _ _ e => e) (fun _ _ e => e)
theorem LF.later (h : LF N W vf lf) (hb : Below W.heap.size W W') : LF N W' vf lf := h.mv (Mv.of_below hb (fun _ => False)) (fun _ _ e => e) (fun _ _ e => e)
theorem LS.nil : LS N W (.slice none 0 0) [] := ⟨World.ownsRow_nil _ _ _ _, fun x hx => absurd hx (by simp)⟩
theorem LF.nil : LF N W (.slice none 0 0) [] := ⟨World.ownsRow_nil _ _ _ _, fun x hx => absurd hx (by simp)⟩
theorem mv_grown {row : Option Nat} (hg : W.grownBy W' row) : Mv W W' (fun j => row = some j) := (Mv.refl W _).grown hg (fun _ _ e => e)
/-- One more. -/
theorem LS.push {x : Sy × Lv} (h : LS N W vs ls) (hx : SyL N W x) (ho : W'.ownsRow N 38 8 v' (ls.length + 1) (fl lvC ls ++ lvC x)) (hg : W.grownBy W' vs.ownBlock) : LS N W' v' (ls ++ [x]) := by
  have key : ∀ y, SyL N W y → SyL N W' y := fun y hy => hy.mv (mv_grown hg) (fun j hj => hj.not h.row (by decide) (by decide))
  refine ⟨?_, fun y hy => ?_⟩
  · rw [List.length_append, List.length_singleton, fl_snoc]
    exact ho
  · rcases List.mem_append.1 hy with hy | hy
    · exact key y (h.all y hy)
    · obtain rfl := List.mem_singleton.1 hy
      exact key _ hx
theorem LF.push {x : Rt × Value} (h : LF N W vf lf) (hx : RtL N W x) (ho : W'.ownsRow N 35 4 v' (lf.length + 1) (fl rwC lf ++ rwC x)) (hg : W.grownBy W' vf.ownBlock) : LF N W' v' (lf ++ [x]) := by
  have key : ∀ y, RtL N W y → RtL N W' y := fun y hy => hy.mv (mv_grown hg) (fun j hj => hj.not h.row (by decide) (by decide))
  refine ⟨?_, fun y hy => ?_⟩
  · rw [List.length_append, List.length_singleton, fl_snoc]
    exact ho
  · rcases List.mem_append.1 hy with hy | hy
    · exact key y (h.all y hy)
    · obtain rfl := List.mem_singleton.1 hy
      exact key _ hx
/-- The other row stays. -/
theorem LS.grown {B e s n : Nat} {v : Value} {xs : List Value} (h : LS N W vs ls) (ho : W.ownsRow B e s v n xs) (h1 : e ≠ 3) (h2 : e ≠ 28) (h3 : e ≠ 38) (hg : W.grownBy W' v.ownBlock) : LS N W' vs ls := h.mv (mv_grown hg) (fun _j hj => hj.not ho h1 h2) (fun j e1 e2 => own_ap2 h.row ho (fun e => h3 e.symm) j e1 e2)
theorem LF.grown {B e s n : Nat} {v : Value} {xs : List Value} (h : LF N W vf lf) (ho : W.ownsRow B e s v n xs) (h1 : e ≠ 3) (h2 : e ≠ 28) (h3 : e ≠ 35) (hg : W.grownBy W' v.ownBlock) : LF N W' vf lf := h.mv (mv_grown hg) (fun _j hj => hj.not ho h1 h2) (fun j e1 e2 => own_ap2 h.row ho (fun e => h3 e.symm) j e1 e2)
theorem own_cut8 {B g c m k e s : Nat} {xs : List Value} (h : W.ownsRow B e s (.slice (some ⟨g, 0, none⟩) m c) m xs) (hk : k ≤ m) : W.ownsRow B e s (.slice (some ⟨g, 0, none⟩) k c) k (xs.take (k * s)) := by
  have hlen := h.1
  have hks : k * s ≤ m * s := Nat.mul_le_mul_right s hk
  rcases h.2 with ⟨h', _⟩ | ⟨gv', c', cur, h', hb, hg, h1, h2, h3, h4⟩
  · simp at h'
  · simp only [Value.slice.injEq, Option.some.injEq, Addr.mk.injEq, and_true, true_and] at h'
    obtain ⟨rfl, rfl⟩ := h'
    refine ⟨by rw [List.length_take]; omega, .inr ⟨g, c, cur, rfl, hb, hg, by omega, h2, h3, ?_⟩⟩
    rw [← h4, List.take_take]
    congr 1
    omega
theorem LS.cut {B c g : Nat} {xs : List Value} (h : LS N W vs ls) (ho : W'.ownsRow N 38 8 (.slice (some ⟨g, 0, none⟩) (ls.length + 1) c) (ls.length + 1) (fl lvC ls ++ xs)) (hg : W.grownBy W' vs.ownBlock) (hB : B = ls.length) : LS N W' (.slice (some ⟨g, 0, none⟩) B c) ls := by
  subst hB
  refine ⟨?_, fun y hy => (h.all y hy).mv (mv_grown hg) (fun j hj => hj.not h.row (by decide) (by decide))⟩
  have := own_cut8 (k := ls.length) ho (by omega)
  rw [← fl_len lvC_len, List.take_left] at this
  exact this
theorem LF.cut {B c g : Nat} {xs : List Value} (h : LF N W vf lf) (ho : W'.ownsRow N 35 4 (.slice (some ⟨g, 0, none⟩) (lf.length + 1) c) (lf.length + 1) (fl rwC lf ++ xs)) (hg : W.grownBy W' vf.ownBlock) (hB : B = lf.length) : LF N W' (.slice (some ⟨g, 0, none⟩) B c) lf := by
  subst hB
  refine ⟨?_, fun y hy => (h.all y hy).mv (mv_grown hg) (fun j hj => hj.not h.row (by decide) (by decide))⟩
  have := own_cut8 (k := lf.length) ho (by omega)
  rw [← fl_len rwC_len, List.take_left] at this
  exact this
/-- As it is read. -/
theorem LS.sys (h : LS N W vs ls) : Sys (fun _ => True) W vs (ls.map Prod.fst) := by
  obtain ⟨ao, c, rfl⟩ := own_len h.row
  obtain ⟨c1, c2⟩ := own_cap h.row
  refine ⟨ao, c, by rw [List.length_map], by rw [List.length_map]; exact c1, by unfold maxLen; omega, fun h0 => ?_⟩
  rw [List.length_map] at h0
  obtain ⟨g, c', e, -⟩ := own_form h.row h0
  injection e with e1 e2 e3
  subst e1
  refine ⟨g, 0, rfl, trivial, fun i hi => ?_⟩
  rw [List.length_map] at hi
  have hx := h.all _ (List.getElem_mem hi)
  have key : ∀ j, j < 8 → W.cell? ⟨g, i * 8 + j, none⟩ = (lvC ls[i])[j]? := fun j hj => (h.row.cellAt _ (by omega)).trans (fl_at lvC_len ls i hi j hj)
  rw [List.getElem_map, Nat.zero_add]
  exact ⟨hx.pa, hx.lo, _, _, _, _, _, key 0 (by omega), key 1 (by omega), key 2 (by omega), key 3 (by omega), key 4 (by omega), key 5 (by omega), key 6 (by omega), key 7 (by omega), hx.wi.mono (fun _ _ => trivial), hx.wo.mono (fun _ _ => trivial), hx.re.mono (fun _ _ => trivial), hx.wr.mono (fun _ _ => trivial), hx.co.mono (fun _ _ => trivial)⟩
theorem LF.rts (h : LF N W vf lf) : Rts (fun _ => True) W vf (lf.map Prod.fst) := by
  obtain ⟨ao, c, rfl⟩ := own_len h.row
  obtain ⟨c1, c2⟩ := own_cap h.row
  refine ⟨ao, c, by rw [List.length_map], by rw [List.length_map]; exact c1, by unfold maxLen; omega, fun h0 => ?_⟩
  rw [List.length_map] at h0
  obtain ⟨g, c', e, -⟩ := own_form h.row h0
  injection e with e1 e2 e3
  subst e1
  refine ⟨g, 0, rfl, trivial, fun i hi => ?_⟩
  rw [List.length_map] at hi
  have hx := h.all _ (List.getElem_mem hi)
  have key : ∀ j, j < 4 → W.cell? ⟨g, i * 4 + j, none⟩ = (rwC lf[i])[j]? := fun j hj => (h.row.cellAt _ (by omega)).trans (fl_at rwC_len lf i hi j hj)
  rw [List.getElem_map, Nat.zero_add]
  exact ⟨hx.pa, hx.lo, _, key 0 (by omega), key 1 (by omega), key 2 (by omega), key 3 (by omega), hx.co.mono (fun _ _ => trivial)⟩
theorem own_put {g c n k e s B : Nat} {xs : List Value} {u : Value} (h : W.ownsRow B e s (.slice (some ⟨g, 0, none⟩) n c) n xs) : (W.setCell ⟨g, k, none⟩ u).ownsRow B e s (.slice (some ⟨g, 0, none⟩) n c) n (xs.set k u) := by
  have hlen := h.1
  rcases h.2 with ⟨h', _⟩ | ⟨gv', c', cur, h', hb, hg, h1, h2, h3, h4⟩
  · simp at h'
  · simp only [Value.slice.injEq, Option.some.injEq, Addr.mk.injEq, and_true, true_and] at h'
    obtain ⟨rfl, rfl⟩ := h'
    refine ⟨by rw [List.length_set]; exact hlen, .inr ⟨g, c, _, rfl, hb, heap_setCell_same W g k _ e u hg, h1, h2, by simpa using h3, ?_⟩⟩
    rw [← h4, ← List.take_set]
    simp
/-- Another name. -/
def nmL (n : ByteArray) (x : Sy × Lv) : Sy × Lv := (nmS n x.1, x.2)
def nmF (n : ByteArray) (x : Rt × Value) : Rt × Value := (nmR n x.1, x.2)
theorem LS.name {g c n k : Nat} (h : LS N W (.slice (some ⟨g, 0, none⟩) n c) ls) (hn : n = ls.length) (hk : k < ls.length) (nm : ByteArray) : LS N (W.setCell ⟨g, k * 8 + 4, none⟩ (.string nm)) (.slice (some ⟨g, 0, none⟩) n c) (ls.set k (nmL nm ls[k])) := by
  subst hn
  have hm : Mv W (W.setCell ⟨g, k * 8 + 4, none⟩ (.string nm)) (fun j => (Value.slice (some ⟨g, 0, none⟩) ls.length c).ownBlock = some j) := (Mv.refl W _).grown (grown_set W g _ _) (fun _ _ e => e)
  refine ⟨?_, fun x hx => ?_⟩
  · rw [List.length_set, fl_set lvC_len ls k hk 4 (.string nm) _ (by omega) rfl]
    exact own_put h.row
  · have key : ∀ y, SyL N W y → SyL N (W.setCell ⟨g, k * 8 + 4, none⟩ (.string nm)) y := fun y hy => hy.mv hm (fun j hj => hj.not h.row (by decide) (by decide))
    rcases List.mem_or_eq_of_mem_set hx with hx | rfl
    · exact key x (h.all x hx)
    · have := key _ (h.all _ (List.getElem_mem hk))
      exact ⟨this.pa, this.lo, this.wi, this.wo, this.re, this.wr, this.co⟩
theorem LF.name {g c n k : Nat} (h : LF N W (.slice (some ⟨g, 0, none⟩) n c) lf) (hn : n = lf.length) (hk : k < lf.length) (nm : ByteArray) : LF N (W.setCell ⟨g, k * 4, none⟩ (.string nm)) (.slice (some ⟨g, 0, none⟩) n c) (lf.set k (nmF nm lf[k])) := by
  subst hn
  have hm : Mv W (W.setCell ⟨g, k * 4, none⟩ (.string nm)) (fun j => (Value.slice (some ⟨g, 0, none⟩) lf.length c).ownBlock = some j) := (Mv.refl W _).grown (grown_set W g _ _) (fun _ _ e => e)
  refine ⟨?_, fun x hx => ?_⟩
  · have := fl_set rwC_len lf k hk 0 (.string nm) (nmF nm lf[k]) (by omega) rfl
    rw [List.length_set, this]
    exact own_put h.row
  · have key : ∀ y, RtL N W y → RtL N (W.setCell ⟨g, k * 4, none⟩ (.string nm)) y := fun y hy => hy.mv hm (fun j hj => hj.not h.row (by decide) (by decide))
    rcases List.mem_or_eq_of_mem_set hx with hx | rfl
    · exact key x (h.all x hx)
    · have := key _ (h.all _ (List.getElem_mem hk))
      exact ⟨this.pa, this.lo, this.co⟩
end
end Go.Proofs.YtfkhhplcogedmaaGreatDoor

/-
  Verify: the law's lent.
-/
namespace Go.Proofs.YtfkhhplcogedmaaGreatDoor
open Go.RowKit
set_option maxRecDepth 100000
/-- A system that is copied, list by list. -/
structure Sp (N : Nat) (w0 W : World) (gs : Nat) (x : Lv) (s : Sy) (d : Nat) : Prop where
  blk : W.heap[gs]? = some (.cells #[x.v1, x.v2, x.v3, x.v4, .string s.run.name, .int .i64 s.run.pa, .int .i64 s.run.lo, x.vc] 38 (0, 0))
  bel : Below w0.heap.size w0 W
  ge : w0.heap.size ≤ gs
  a1 : 1 ≤ d → Nl (Li N W) W x.v1 s.wi
  a2 : 2 ≤ d → Nl (Li N W) W x.v2 s.wo
  a3 : 3 ≤ d → Nl (Li N W) W x.v3 s.re
  a4 : 4 ≤ d → Nl (Li N W) W x.v4 s.wr
  a5 : 5 ≤ d → Il (Li N W) W x.vc s.run.code
theorem Li.notb {N j g t : Nat} {W : World} {cs : Array Value} (h : Li N W j) (hg : W.heap[g]? = some (.cells cs t (0, 0))) (h1 : t ≠ 3) (h2 : t ≠ 28) : ¬ j = g := fun e => by
  subst e
  rcases h with ⟨-, ds, hd⟩ | ⟨-, ds, hd⟩ <;> rw [hg] at hd <;> injection hd with hd <;> injection hd with hd hd2
  · exact h1 hd2
  · exact h2 hd2
theorem mv_set (W : World) (g k : Nat) (u : Value) : Mv W (W.setCell ⟨g, k, none⟩ u) (fun j => j = g) := (Mv.refl W (fun j => j = g)).set rfl k u
section
variable {N : Nat} {w0 W w' : World} {gs : Nat} {x : Lv} {s : Sy} {d : Nat} {y : Value}
theorem Sp.cells (h : Sp N w0 W gs x s d) : W.cell? ⟨gs, 0, none⟩ = some x.v1 ∧ W.cell? ⟨gs, 1, none⟩ = some x.v2 ∧ W.cell? ⟨gs, 2, none⟩ = some x.v3 ∧ W.cell? ⟨gs, 3, none⟩ = some x.v4 ∧ W.cell? ⟨gs, 4, none⟩ = some (.string s.run.name) ∧ W.cell? ⟨gs, 5, none⟩ = some (.int .i64 s.run.pa) ∧ W.cell? ⟨gs, 6, none⟩ = some (.int .i64 s.run.lo) ∧ W.cell? ⟨gs, 7, none⟩ = some x.vc := row8 h.blk
theorem Sp.later (h : Sp N w0 W gs x s d) (hb : Below W.heap.size W w') : Sp N w0 w' gs x s d := by
  have hm := Mv.of_below hb (fun _ => False)
  have hs : ∀ j, Li N W j → ¬ False := fun _ _ e => e
  exact ⟨(hb.block _ (lt_of_block h.blk)).trans h.blk, below_on h.bel hb, h.ge, fun e => (h.a1 e).li hm hs, fun e => (h.a2 e).li hm hs, fun e => (h.a3 e).li hm hs, fun e => (h.a4 e).li hm hs, fun e => (h.a5 e).li hm hs⟩
theorem Sp.bels (h : Sp N w0 W gs x s d) (k : Nat) (u : Value) : Below w0.heap.size w0 (W.setCell ⟨gs, k, none⟩ u) := h.bel.setCell h.ge u
theorem Sp.next1 (h : Sp N w0 W gs x s 0) (hy : Nl (Li N W) W y s.wi) : Sp N w0 (W.setCell ⟨gs, 0, none⟩ y) gs ⟨y, x.v2, x.v3, x.v4, x.vc⟩ s 1 := by
  have hm := mv_set W gs 0 y
  have hs : ∀ j, Li N W j → ¬ j = gs := fun j hj => hj.notb h.blk (by decide) (by decide)
  exact ⟨by rw [heap_setCell_same W gs 0 _ 38 y h.blk]; rfl, h.bels _ _, h.ge, fun _ => hy.li hm hs, fun e => absurd e (by omega), fun e => absurd e (by omega), fun e => absurd e (by omega), fun e => absurd e (by omega)⟩
theorem Sp.next2 (h : Sp N w0 W gs x s 1) (hy : Nl (Li N W) W y s.wo) : Sp N w0 (W.setCell ⟨gs, 1, none⟩ y) gs ⟨x.v1, y, x.v3, x.v4, x.vc⟩ s 2 := by
  have hm := mv_set W gs 1 y
  have hs : ∀ j, Li N W j → ¬ j = gs := fun j hj => hj.notb h.blk (by decide) (by decide)
  exact ⟨by rw [heap_setCell_same W gs 1 _ 38 y h.blk]; rfl, h.bels _ _, h.ge, fun _ => (h.a1 (by omega)).li hm hs, fun _ => hy.li hm hs, fun e => absurd e (by omega), fun e => absurd e (by omega), fun e => absurd e (by omega)⟩
theorem Sp.next3 (h : Sp N w0 W gs x s 2) (hy : Nl (Li N W) W y s.re) : Sp N w0 (W.setCell ⟨gs, 2, none⟩ y) gs ⟨x.v1, x.v2, y, x.v4, x.vc⟩ s 3 := by
  have hm := mv_set W gs 2 y
  have hs : ∀ j, Li N W j → ¬ j = gs := fun j hj => hj.notb h.blk (by decide) (by decide)
  exact ⟨by rw [heap_setCell_same W gs 2 _ 38 y h.blk]; rfl, h.bels _ _, h.ge, fun _ => (h.a1 (by omega)).li hm hs, fun _ => (h.a2 (by omega)).li hm hs, fun _ => hy.li hm hs, fun e => absurd e (by omega), fun e => absurd e (by omega)⟩
theorem Sp.next4 (h : Sp N w0 W gs x s 3) (hy : Nl (Li N W) W y s.wr) : Sp N w0 (W.setCell ⟨gs, 3, none⟩ y) gs ⟨x.v1, x.v2, x.v3, y, x.vc⟩ s 4 := by
  have hm := mv_set W gs 3 y
  have hs : ∀ j, Li N W j → ¬ j = gs := fun j hj => hj.notb h.blk (by decide) (by decide)
  exact ⟨by rw [heap_setCell_same W gs 3 _ 38 y h.blk]; rfl, h.bels _ _, h.ge, fun _ => (h.a1 (by omega)).li hm hs, fun _ => (h.a2 (by omega)).li hm hs, fun _ => (h.a3 (by omega)).li hm hs, fun _ => hy.li hm hs, fun e => absurd e (by omega)⟩
theorem Sp.next5 (h : Sp N w0 W gs x s 4) (hy : Il (Li N W) W y s.run.code) : Sp N w0 (W.setCell ⟨gs, 7, none⟩ y) gs ⟨x.v1, x.v2, x.v3, x.v4, y⟩ s 5 := by
  have hm := mv_set W gs 7 y
  have hs : ∀ j, Li N W j → ¬ j = gs := fun j hj => hj.notb h.blk (by decide) (by decide)
  exact ⟨by rw [heap_setCell_same W gs 7 _ 38 y h.blk]; rfl, h.bels _ _, h.ge, fun _ => (h.a1 (by omega)).li hm hs, fun _ => (h.a2 (by omega)).li hm hs, fun _ => (h.a3 (by omega)).li hm hs, fun _ => (h.a4 (by omega)).li hm hs, fun _ => hy.li hm hs⟩
theorem Sp.done (h : Sp N w0 W gs x s 5) (h1 : I6 s.run.pa) (h2 : I6 s.run.lo) : SyL N W (s, x) := ⟨h1, h2, h.a1 (by omega), h.a2 (by omega), h.a3 (by omega), h.a4 (by omega), h.a5 (by omega)⟩
end
/-- What is lent so far. -/
structure Lq (N : Nat) (w W : World) (gp gr gq : Nat) (vp1 vp2 vs vf : Value) (ls : List (Sy × Lv)) (lf : List (Rt × Value)) : Prop where
  p : W.heap[gp]? = some (.cells #[vp1, vp2] 25 (0, 0))
  r : W.heap[gr]? = some (.cells #[.slice none 0 0, .slice none 0 0] 25 (0, 0))
  q : W.heap[gq]? = some (.cells #[vs, vf] 25 (0, 0))
  s : LS N W vs ls
  f : LF N W vf lf
  b : Below w.heap.size w W
  n : N = w.heap.size ∧ N ≤ gp ∧ gp < gr ∧ gr < gq
section
variable {N : Nat} {w W W' : World} {gp gr gq : Nat} {vp1 vp2 vs vf u : Value} {ls : List (Sy × Lv)} {lf : List (Rt × Value)} {S : Nat → Prop}
theorem Lq.later (h : Lq N w W gp gr gq vp1 vp2 vs vf ls lf) (hb : Below W.heap.size W W') : Lq N w W' gp gr gq vp1 vp2 vs vf ls lf := ⟨(hb.block _ (lt_of_block h.p)).trans h.p, (hb.block _ (lt_of_block h.r)).trans h.r, (hb.block _ (lt_of_block h.q)).trans h.q, h.s.later hb, h.f.later hb, below_on h.b hb, h.n⟩
theorem Lq.cells (h : Lq N w W gp gr gq vp1 vp2 vs vf ls lf) : W.cell? ⟨gp, 0, none⟩ = some vp1 ∧ W.cell? ⟨gp, 1, none⟩ = some vp2 ∧ W.cell? ⟨gq, 0, none⟩ = some vs ∧ W.cell? ⟨gq, 1, none⟩ = some vf := by
  refine ⟨?_, ?_, ?_, ?_⟩
  · rw [cell_of_row W _ _ _ 25 (0, 0) h.p]; rfl
  · rw [cell_of_row W _ _ _ 25 (0, 0) h.p]; rfl
  · rw [cell_of_row W _ _ _ 25 (0, 0) h.q]; rfl
  · rw [cell_of_row W _ _ _ 25 (0, 0) h.q]; rfl
theorem notPg {B e s n g : Nat} {v : Value} {xs : List Value} {cs : Array Value} (h : W.ownsRow B e s v n xs) (hg : W.heap[g]? = some (.cells cs 25 (0, 0))) (he : e ≠ 25) : v.ownBlock ≠ some g := fun e' => by
  obtain ⟨cur, hc⟩ := own_blk2 h e'
  rw [hg] at hc
  injection hc with hc
  injection hc with hc hc2
  exact he hc2.symm
/-- The rows turn, and the variable is told. -/
theorem Lq.putS {ls' : List (Sy × Lv)} (h : Lq N w W gp gr gq vp1 vp2 vs vf ls lf) (hg : W.grownBy W' vs.ownBlock) (hs : LS N W' u ls') : Lq N w (W'.setCell ⟨gq, 0, none⟩ u) gp gr gq vp1 vp2 u vf ls' lf := by
  obtain ⟨n1, n2, n3, n4⟩ := h.n
  have hm := mv_grown hg
  have k : ∀ {g : Nat} {cs : Array Value}, W.heap[g]? = some (.cells cs 25 (0, 0)) → W'.heap[g]? = some (.cells cs 25 (0, 0)) := fun hx => hm.at hx (notPg h.s.row hx (by decide))
  have hq := k h.q
  have hf := h.f.grown h.s.row (by decide) (by decide) (by decide) hg
  have m2 := mv_set W' gq 0 u
  have li : ∀ j, Li N W' j → ¬ j = gq := fun j hj => hj.notb hq (by decide) (by decide)
  refine ⟨m2.at (k h.p) (by omega), m2.at (k h.r) (by omega), by rw [heap_setCell_same W' gq 0 _ 25 u hq]; rfl, hs.mv m2 li ?_, hf.mv m2 li ?_, ?_, h.n⟩
  · rintro j e rfl
    exact notPg hs.row hq (by decide) e
  · rintro j e rfl
    exact notPg hf.row hq (by decide) e
  · exact (h.b.grown hg h.b.size (fun k e => by have := (h.s.row.lt k e).1; omega)).setCell (by show _ ≤ gq; omega) u
theorem Lq.putF {lf' : List (Rt × Value)} (h : Lq N w W gp gr gq vp1 vp2 vs vf ls lf) (hg : W.grownBy W' vf.ownBlock) (hf : LF N W' u lf') : Lq N w (W'.setCell ⟨gq, 1, none⟩ u) gp gr gq vp1 vp2 vs u ls lf' := by
  obtain ⟨n1, n2, n3, n4⟩ := h.n
  have hm := mv_grown hg
  have k : ∀ {g : Nat} {cs : Array Value}, W.heap[g]? = some (.cells cs 25 (0, 0)) → W'.heap[g]? = some (.cells cs 25 (0, 0)) := fun hx => hm.at hx (notPg h.f.row hx (by decide))
  have hq := k h.q
  have hs := h.s.grown h.f.row (by decide) (by decide) (by decide) hg
  have m2 := mv_set W' gq 1 u
  have li : ∀ j, Li N W' j → ¬ j = gq := fun j hj => hj.notb hq (by decide) (by decide)
  refine ⟨m2.at (k h.p) (by omega), m2.at (k h.r) (by omega), by rw [heap_setCell_same W' gq 1 _ 25 u hq]; rfl, hs.mv m2 li ?_, hf.mv m2 li ?_, ?_, h.n⟩
  · rintro j e rfl
    exact notPg hs.row hq (by decide) e
  · rintro j e rfl
    exact notPg hf.row hq (by decide) e
  · exact (h.b.grown hg h.b.size (fun k e => by have := (h.f.row.lt k e).1; omega)).setCell (by show _ ≤ gq; omega) u
end
end Go.Proofs.YtfkhhplcogedmaaGreatDoor
