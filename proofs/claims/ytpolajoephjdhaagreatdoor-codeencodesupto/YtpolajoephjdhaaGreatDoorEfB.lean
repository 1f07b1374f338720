import Derived.Test.YtpolajoephjdhaaGreatDoorEfA
import Derived.Test.YtpolajoephjdhaaGreatDoorIxA
import Derived.BigQuiet
/-
  CodeEncodes: the lent program, when its code is written over.
-/
namespace Go.Proofs.YtpolajoephjdhaaGreatDoor
open Go.RowKit
set_option maxRecDepth 100000
structure LZ (W w : World) (N Qb : Nat) (ls : List (Sy × Sv)) (lf : List (Rt × Value)) (vs vf v5 : Value) (x5 : List Value) (ct : Nat → List Ins → List Ins) : Prop where
  qb : w.heap[Qb]? = some (.cells #[vs, vf] 27 (0, 0))
  rs : w.ownsRow N 47 8 vs ls.length (sysC ls)
  rf : w.ownsRow N 45 4 vf lf.length (rtsC lf)
  st : ∀ p ∈ ls, SetIn w N p.1.wi p.2.v1 ∧ SetIn w N p.1.wo p.2.v2 ∧ SetIn w N p.1.re p.2.v3 ∧ SetIn w N p.1.wr p.2.v4
  cd : CD w N (codesS ls ++ codesR lf) (codLs ls lf) ct
  r5 : w.ownsRow N 43 1 v5 x5.length x5
  be : Below N W w
  nw : N ≤ W.heap.size
section
variable {W w w' : World} {N Qb : Nat} {ls : List (Sy × Sv)} {lf : List (Rt × Value)} {vs vf v5 : Value} {x5 : List Value} {ct ct' : Nat → List Ins → List Ins}
theorem LZ.turn {S : Nat → Prop} (h : LZ W w N Qb ls lf vs vf v5 x5 ct) (hm : Mv w w' S) (hS : ∀ j, S j → N ≤ j ∧ ∃ cs, w.heap[j]? = some (.cells cs 56 (0, 0))) (hc : CD w' N (codesS ls ++ codesR lf) (codLs ls lf) ct') : LZ W w' N Qb ls lf vs vf v5 x5 ct' := by
  have t : ∀ {j : Nat} {cs : Array Value} {T : Nat}, w.heap[j]? = some (.cells cs T (0, 0)) → T ≠ 56 → ¬ S j := fun hc ht e => by
    obtain ⟨-, cs', h'⟩ := hS _ e
    rw [hc] at h'
    simp at h'
    exact ht h'.2
  have o : ∀ {e s n : Nat} {v : Value} {xs : List Value}, w.ownsRow N e s v n xs → 56 ≠ e → w'.ownsRow N e s v n xs := fun ho he => hm.own ho (fun j e1 e2 => by
    obtain ⟨-, cs', h'⟩ := hS _ e2
    exact own_not ho h' he e1)
  have s1 : ∀ {l : List Int} {v : Value}, SetIn w N l v → SetIn w' N l v := fun hh => hh.mv hm (fun j e => by
    obtain ⟨-, -, cs, hc⟩ := hh.blk j e
    exact t hc (by decide))
  refine ⟨hm.at h.qb (t h.qb (by decide)), o h.rs (by decide), o h.rf (by decide), fun p hp => ?_, hc, o h.r5 (by decide), h.be.trans (hm.below (Nat.le_trans h.nw h.be.size) (fun j hj => (hS j hj).1)), h.nw⟩
  obtain ⟨a, b, c, d⟩ := h.st p hp
  exact ⟨s1 a, s1 b, s1 c, s1 d⟩
theorem LZ.later (h : LZ W w N Qb ls lf vs vf v5 x5 ct) (hb : Below w.heap.size w w') : LZ W w' N Qb ls lf vs vf v5 x5 ct := h.turn (Mv.of_below hb (fun _ => False)) (fun _ e => e.elim) (h.cd.later hb)
theorem LZ.pgm (F : List Ins → List Ins) (m : Ins) (h : LZ W w N Qb ls lf vs vf v5 x5 (fun _ c => F c ++ List.replicate 80 m)) (hF : ∀ c, (F c).length = c.length) (h6 : Six (codP F ⟨ls.map Prod.fst, lf.map Prod.fst⟩)) (hz1 : ∀ p ∈ ls, p.1.wi.length ≤ 1048576 ∧ p.1.wo.length ≤ 1048576 ∧ p.1.re.length ≤ 1048576 ∧ p.1.wr.length ≤ 1048576 ∧ p.1.run.code.length ≤ 1048576) (hz2 : ∀ p ∈ lf, p.1.code.length ≤ 1048576) : Pgm Qt w vs vf (codP F ⟨ls.map Prod.fst, lf.map Prod.fst⟩) := pgm_of F m h.rs h.rf h.st h.cd hF h6 hz1 hz2
/-- The i-th list: where it stands, what it holds. -/
theorem LZ.list {u5 : Option Addr} {n5 r5 : Nat} (h : LZ W w N Qb ls lf vs vf (.slice u5 n5 r5) x5 ct) (hx : x5 = (codesS ls ++ codesR lf).map wideV) {i : Nat} (hi : i < (codesS ls ++ codesR lf).length) (hi' : i < (codLs ls lf).length) : ∃ g5 g, u5 = some ⟨g5, 0, none⟩ ∧ (codesS ls ++ codesR lf)[i] = .slice (some ⟨g, 0, none⟩) (codLs ls lf)[i].length ((codLs ls lf)[i].length + 80) ∧ w.cell? ⟨g5, i, none⟩ = some (.slice (some ⟨g, 0, none⟩) ((codLs ls lf)[i].length + 80) ((codLs ls lf)[i].length + 80)) ∧ N ≤ g ∧ (ct i (codLs ls lf)[i]).length = (codLs ls lf)[i].length + 80 ∧ RwI w g (ct i (codLs ls lf)[i]) := by
  obtain ⟨g, e1, h1, h2, h3⟩ := h.cd.2.2 i hi hi'
  have hl : x5.length = (codesS ls ++ codesR lf).length := by rw [hx, List.length_map]
  obtain ⟨g5, c5, e5, hc5⟩ := own_some h.r5 (by omega)
  injection e5 with e51 _ _
  refine ⟨g5, g, e51, e1, ?_, h1, h2, h3⟩
  rw [hc5 i (by omega), hx, List.getElem?_map, List.getElem?_eq_getElem hi, e1]
  rfl
end
theorem Bs.mvI {w w' : World} {v : Value} {l : List UInt8} {S : Nat → Prop} (h : Bs w v l) (hm : Mv w w' S) (hS : ∀ j, S j → ∃ X, RwI w j X) : Bs w' v l := by
  obtain ⟨ao, c, h1, h2, h3, h4⟩ := h
  refine ⟨ao, c, h1, h2, h3, fun j hj => ?_⟩
  obtain ⟨g, o, e, hc⟩ := h4 j hj
  refine ⟨g, o, e, hm.cell hc (fun hs => ?_)⟩
  obtain ⟨X, hX⟩ := hS g hs
  rw [cell_of_row w g (o + j) _ 56 (0, 0) hX] at hc
  have hm := Array.mem_of_getElem? hc
  rw [List.mem_toArray] at hm
  unfold insC at hm
  obtain ⟨x, -, hx⟩ := List.mem_flatMap.1 hm
  simp at hx
theorem il_lt {w : World} {v : Value} {l : List Ins} (h : Il Qt w v l) : Il (fun j => j < w.heap.size) w v l := by
  obtain ⟨ao, c, h1, h2, h3, h4⟩ := h
  refine ⟨ao, c, h1, h2, h3, fun h0 => ?_⟩
  obtain ⟨g, o, h5, -, h7⟩ := h4 h0
  exact ⟨g, o, h5, World.block_lt_of_cell? w _ (h7 0 h0).2.2.1, h7⟩
def mkS4 : Ins := ⟨24, 0⟩
def stpE (l : List Ins) (k : Nat) : List Ins := List.replicate k mkS4 ++ l.drop k
theorem stpE_len (l : List Ins) (k : Nat) (hk : k ≤ l.length) : (stpE l k).length = l.length := by simp [stpE]; omega
theorem stpE_set (l : List Ins) (k : Nat) (hk : k < l.length) : (stpE l k).set k mkS4 = stpE l (k + 1) := by
  unfold stpE
  rw [List.set_append_right _ _ (by simp), List.length_replicate, Nat.sub_self, List.drop_eq_getElem_cons hk, List.set_cons_zero, List.replicate_succ', List.append_assoc]
  rfl
theorem stpE_end (l : List Ins) : stpE l l.length = List.replicate l.length mkS4 := by simp [stpE]
theorem repS_six (n : Nat) : ∀ i ∈ List.replicate n mkS4, I6 i.op ∧ I6 i.a := fun i hi => by
  rw [List.mem_replicate] at hi
  rw [hi.2]
  exact ⟨⟨by decide, by decide⟩, ⟨by decide, by decide⟩⟩
theorem lit_own (w : World) : (w.alloc (.cells #[] 56)).ownsRow w.heap.size 56 2 (.slice (some ⟨w.heap.size, 0, none⟩) 0 0) 0 [] :=
  ⟨rfl, .inr ⟨w.heap.size, 0, #[], rfl, Nat.le_refl _, heap_alloc_new w _, Nat.le_refl _, Nat.zero_le _, rfl, rfl⟩⟩
def rep8 (c : List Ins) : List Ins := List.replicate (c.length + 80) mk8
def f24 (c : List Ins) : List Ins := List.replicate c.length mkS4
theorem rep24_split (c : List Ins) : List.replicate (c.length + 80) mkS4 = f24 c ++ List.replicate 80 mkS4 := by unfold f24; rw [List.replicate_append_replicate]
end Go.Proofs.YtpolajoephjdhaaGreatDoor

/-
  CodeEncodes: the copy that is made of the lent program.
-/
namespace Go.Proofs.YtpolajoephjdhaaGreatDoor
open Go.RowKit
set_option maxRecDepth 100000
/-- What the copy's systems hold: code of its own. -/
def CpS (w : World) (M : Nat) (ls : List (Sy × Sv)) : Prop := ∀ p ∈ ls, w.ownsRow M 56 2 p.2.vc p.1.run.code.length (insC p.1.run.code)
def CpR (w : World) (M : Nat) (lf : List (Rt × Value)) : Prop := ∀ p ∈ lf, w.ownsRow M 56 2 p.2 p.1.code.length (insC p.1.code)
theorem CpS.mv {w w' : World} {M : Nat} {ls : List (Sy × Sv)} {S : Nat → Prop} (h : CpS w M ls) (hm : Mv w w' S) (hS : ∀ j, S j → ∃ cs T, w.heap[j]? = some (.cells cs T (0, 0)) ∧ T ≠ 56) : CpS w' M ls := fun p hp => hm.own (h p hp) (fun j e1 e2 => by
  obtain ⟨cs, T, h1, h2⟩ := hS j e2
  exact own_not (h p hp) h1 h2 e1)
theorem CpR.mv {w w' : World} {M : Nat} {lf : List (Rt × Value)} {S : Nat → Prop} (h : CpR w M lf) (hm : Mv w w' S) (hS : ∀ j, S j → ∃ cs T, w.heap[j]? = some (.cells cs T (0, 0)) ∧ T ≠ 56) : CpR w' M lf := fun p hp => hm.own (h p hp) (fun j e1 e2 => by
  obtain ⟨cs, T, h1, h2⟩ := hS j e2
  exact own_not (h p hp) h1 h2 e1)
theorem CpS.later {w w' : World} {M : Nat} {ls : List (Sy × Sv)} (h : CpS w M ls) (hb : Below w.heap.size w w') : CpS w' M ls := fun p hp => own_later (h p hp) hb
theorem CpR.later {w w' : World} {M : Nat} {lf : List (Rt × Value)} (h : CpR w M lf) (hb : Below w.heap.size w w') : CpR w' M lf := fun p hp => own_later (h p hp) hb
/-- While the copy is made. -/
structure LN (w0 w : World) (M Nb : Nat) (ls : List (Sy × Sv)) (lf : List (Rt × Value)) (vs vf : Value) : Prop where
  nb : w.heap[Nb]? = some (.cells #[vs, vf] 27 (0, 0))
  rs : w.ownsRow M 47 8 vs ls.length (sysC ls)
  rf : w.ownsRow M 45 4 vf lf.length (rtsC lf)
  cs : CpS w M ls
  cf : CpR w M lf
  be : Below M w0 w
  nq : M ≤ Nb
  nw : M ≤ w0.heap.size
section
variable {w0 w w' : World} {M Nb : Nat} {ls : List (Sy × Sv)} {lf : List (Rt × Value)} {vs vf : Value}
theorem LN.later (h : LN w0 w M Nb ls lf vs vf) (hb : Below w.heap.size w w') : LN w0 w' M Nb ls lf vs vf := ⟨(hb.block Nb (lt_of_block h.nb)).trans h.nb, own_later h.rs hb, own_later h.rf hb, h.cs.later hb, h.cf.later hb, h.be.trans (hb.mono (Nat.le_trans h.nw h.be.size)), h.nq, h.nw⟩
/-- A block of another kind turns. -/
theorem LN.turnT {T : Nat} {cs : Array Value} {ty : Nat} (h : LN w0 w M Nb ls lf vs vf) (hT : w.heap[T]? = some (.cells cs ty (0, 0))) (hty : ty = 47 ∨ ty = 45) (hN : M ≤ T) (hvs : ∀ j, vs.ownBlock = some j → j ≠ T) (hvf : ∀ j, vf.ownBlock = some j → j ≠ T) (hm : Mv w w' (fun j => j = T)) : LN w0 w' M Nb ls lf vs vf := by
  have hp : ty ≠ 27 := by rcases hty with rfl | rfl <;> decide
  have hin : ty ≠ 56 := by rcases hty with rfl | rfl <;> decide
  have hNb : ¬ Nb = T := fun e => by
    have := h.nb
    rw [e, hT] at this
    simp at this
    exact hp this.2
  exact ⟨hm.at h.nb hNb, hm.own h.rs (fun j e1 e2 => hvs j e1 e2), hm.own h.rf (fun j e1 e2 => hvf j e1 e2), h.cs.mv hm (fun j e => ⟨cs, ty, e ▸ hT, hin⟩), h.cf.mv hm (fun j e => ⟨cs, ty, e ▸ hT, hin⟩), h.be.trans (hm.below (Nat.le_trans h.nw h.be.size) (fun j hj => by rw [hj]; exact hN)), h.nq, h.nw⟩
theorem LN.turnS {vs' : Value} {p : Sy × Sv} (h : LN w0 w M Nb ls lf vs vf) (hm : Mv w w' (fun j => vs.ownBlock = some j)) (ho : w'.ownsRow M 47 8 vs' (ls ++ [p]).length (sysC (ls ++ [p]))) (hc : w.ownsRow M 56 2 p.2.vc p.1.run.code.length (insC p.1.run.code)) : LN w0 (w'.setCell ⟨Nb, 0, none⟩ vs') M Nb (ls ++ [p]) lf vs' vf := by
  have q1 := hm.at h.nb (fun e => own_not h.rs h.nb (by decide) e)
  have hm2 : Mv w' (w'.setCell ⟨Nb, 0, none⟩ vs') (fun j => j = Nb) := (Mv.refl w' (fun j => j = Nb)).set (g := Nb) rfl 0 vs'
  have nq : ∀ {e s n : Nat} {v : Value} {xs : List Value}, w'.ownsRow M e s v n xs → 27 ≠ e → (w'.setCell ⟨Nb, 0, none⟩ vs').ownsRow M e s v n xs := fun ho' he => hm2.own ho' (fun j e1 e2 => own_not ho' q1 he (e2 ▸ e1))
  have o1 : ∀ {v : Value} {n : Nat} {xs : List Value}, w.ownsRow M 56 2 v n xs → w'.ownsRow M 56 2 v n xs := fun ho' => hm.own ho' (fun j e1 e2 => own_types h.rs ho' (by decide) j e2 e1)
  have rf' := hm.own h.rf (fun j e1 e2 => own_types h.rs h.rf (by decide) j e2 e1)
  have b1 : Below M w0 w' := h.be.trans (hm.below (Nat.le_trans h.nw h.be.size) (fun j hj => (h.rs.lt j hj).1))
  refine ⟨by rw [heap_setCell_same w' Nb 0 _ 27 vs' q1]; rfl, nq ho (by decide), nq rf' (by decide), fun q hq => ?_, fun q hq => nq (o1 (h.cf q hq)) (by decide), b1.trans (hm2.below (Nat.le_trans h.nw b1.size) (fun j hj => by rw [hj]; exact h.nq)), h.nq, h.nw⟩
  rw [List.mem_append, List.mem_singleton] at hq
  rcases hq with hq | rfl
  · exact nq (o1 (h.cs q hq)) (by decide)
  · exact nq (o1 hc) (by decide)
theorem LN.turnF {vf' : Value} {p : Rt × Value} (h : LN w0 w M Nb ls lf vs vf) (hm : Mv w w' (fun j => vf.ownBlock = some j)) (ho : w'.ownsRow M 45 4 vf' (lf ++ [p]).length (rtsC (lf ++ [p]))) (hc : w.ownsRow M 56 2 p.2 p.1.code.length (insC p.1.code)) : LN w0 (w'.setCell ⟨Nb, 1, none⟩ vf') M Nb ls (lf ++ [p]) vs vf' := by
  have q1 := hm.at h.nb (fun e => own_not h.rf h.nb (by decide) e)
  have hm2 : Mv w' (w'.setCell ⟨Nb, 1, none⟩ vf') (fun j => j = Nb) := (Mv.refl w' (fun j => j = Nb)).set (g := Nb) rfl 1 vf'
  have nq : ∀ {e s n : Nat} {v : Value} {xs : List Value}, w'.ownsRow M e s v n xs → 27 ≠ e → (w'.setCell ⟨Nb, 1, none⟩ vf').ownsRow M e s v n xs := fun ho' he => hm2.own ho' (fun j e1 e2 => own_not ho' q1 he (e2 ▸ e1))
  have o1 : ∀ {v : Value} {n : Nat} {xs : List Value}, w.ownsRow M 56 2 v n xs → w'.ownsRow M 56 2 v n xs := fun ho' => hm.own ho' (fun j e1 e2 => own_types h.rf ho' (by decide) j e2 e1)
  have rs' := hm.own h.rs (fun j e1 e2 => own_types h.rf h.rs (by decide) j e2 e1)
  have b1 : Below M w0 w' := h.be.trans (hm.below (Nat.le_trans h.nw h.be.size) (fun j hj => (h.rf.lt j hj).1))
  refine ⟨by rw [heap_setCell_same w' Nb 1 _ 27 vf' q1]; rfl, nq rs' (by decide), nq ho (by decide), fun q hq => nq (o1 (h.cs q hq)) (by decide), fun q hq => ?_, b1.trans (hm2.below (Nat.le_trans h.nw b1.size) (fun j hj => by rw [hj]; exact h.nq)), h.nq, h.nw⟩
  rw [List.mem_append, List.mem_singleton] at hq
  rcases hq with hq | rfl
  · exact nq (o1 (h.cf q hq)) (by decide)
  · exact nq (o1 hc) (by decide)
end
/-- The copy, as it is read. -/
theorem cp_il {w : World} {M : Nat} {v : Value} {c : List Ins} (h : w.ownsRow M 56 2 v c.length (insC c)) (h6 : ∀ i ∈ c, I6 i.op ∧ I6 i.a) : Il Qt w v c := il_qt (own_il h h6)
theorem f24_len (c : List Ins) : (f24 c).length = c.length := by simp [f24]
theorem f24_six (c : List Ins) : ∀ i ∈ f24 c, I6 i.op ∧ I6 i.a := repS_six _
section
variable {W w : World} {N Qb : Nat} {ls : List (Sy × Sv)} {lf : List (Rt × Value)} {vs vf v5 : Value} {x5 : List Value}
/-- The k-th system of the lent program, when all its code is steps. -/
theorem LZ.sysAt {us : Option Addr} {n r : Nat} (h : LZ W w N Qb ls lf (.slice us n r) vf v5 x5 (fun _ c => f24 c ++ List.replicate 80 mkS4)) {k : Nat} (hk : k < ls.length) (_hz : ls[k].1.run.code.length ≤ 1048576) : ∃ gq g1 g2 g3 g4 gc, us = some ⟨gq, 0, none⟩ ∧ ls[k].2 = ⟨.slice (some ⟨g1, 0, none⟩) ls[k].1.wi.length (ls[k].1.wi.length + 80), .slice (some ⟨g2, 0, none⟩) ls[k].1.wo.length (ls[k].1.wo.length + 80), .slice (some ⟨g3, 0, none⟩) ls[k].1.re.length (ls[k].1.re.length + 80), .slice (some ⟨g4, 0, none⟩) ls[k].1.wr.length (ls[k].1.wr.length + 80), .slice (some ⟨gc, 0, none⟩) ls[k].1.run.code.length (ls[k].1.run.code.length + 80)⟩ ∧ (w.cell? ⟨gq, k * 8, none⟩ = some (.slice (some ⟨g1, 0, none⟩) ls[k].1.wi.length (ls[k].1.wi.length + 80)) ∧ w.cell? ⟨gq, k * 8 + 1, none⟩ = some (.slice (some ⟨g2, 0, none⟩) ls[k].1.wo.length (ls[k].1.wo.length + 80)) ∧ w.cell? ⟨gq, k * 8 + 2, none⟩ = some (.slice (some ⟨g3, 0, none⟩) ls[k].1.re.length (ls[k].1.re.length + 80)) ∧ w.cell? ⟨gq, k * 8 + 3, none⟩ = some (.slice (some ⟨g4, 0, none⟩) ls[k].1.wr.length (ls[k].1.wr.length + 80)) ∧ w.cell? ⟨gq, k * 8 + 4, none⟩ = some (.string ls[k].1.run.name) ∧ w.cell? ⟨gq, k * 8 + 5, none⟩ = some (.int .i64 ls[k].1.run.pa) ∧ w.cell? ⟨gq, k * 8 + 6, none⟩ = some (.int .i64 ls[k].1.run.lo) ∧ w.cell? ⟨gq, k * 8 + 7, none⟩ = some (.slice (some ⟨gc, 0, none⟩) ls[k].1.run.code.length (ls[k].1.run.code.length + 80))) ∧ RwI w gc (f24 ls[k].1.run.code ++ List.replicate 80 mkS4) := by
  obtain ⟨⟨g1, e1, -⟩, ⟨g2, e2, -⟩, ⟨g3, e3, -⟩, ⟨g4, e4, -⟩⟩ := h.st _ (List.getElem_mem hk)
  have l1 : (codesS ls).length = ls.length := by simp [codesS]
  have hx := h.cd.2.2 k (by rw [List.length_append]; omega) (by rw [← h.cd.1, List.length_append]; omega)
  have f1 : (codesS ls ++ codesR lf)[k]'(by rw [List.length_append]; omega) = (ls[k]).2.vc := by rw [List.getElem_append_left (by omega)]; simp [codesS]
  have f2 : (codLs ls lf)[k]'(by rw [← h.cd.1, List.length_append]; omega) = (ls[k]).1.run.code := (List.getElem_append_left (by simpa using hk)).trans (by simp)
  rw [f1, f2] at hx
  obtain ⟨gc, e5, -, -, hr⟩ := hx
  have hl := own_len h.rs
  obtain ⟨gq, c', e, hc⟩ := own_some h.rs (by omega)
  injection e with e6 e7 e8
  have key : ∀ j, j < 8 → w.cell? ⟨gq, k * 8 + j, none⟩ = (svC ls[k])[j]? := fun j hj => (hc _ (by omega)).trans (svC_at ls k hk j hj)
  refine ⟨gq, g1, g2, g3, g4, gc, e6, ?_, ⟨?_, ?_, ?_, ?_, ?_, ?_, ?_, ?_⟩, hr⟩
  · rw [← e1, ← e2, ← e3, ← e4, ← e5]
  · rw [← e1]; exact key 0 (by omega)
  · rw [← e2]; exact key 1 (by omega)
  · rw [← e3]; exact key 2 (by omega)
  · rw [← e4]; exact key 3 (by omega)
  · exact key 4 (by omega)
  · exact key 5 (by omega)
  · exact key 6 (by omega)
  · rw [← e5]; exact key 7 (by omega)
theorem LZ.rtAt {uf : Option Addr} {n r : Nat} (h : LZ W w N Qb ls lf vs (.slice uf n r) v5 x5 (fun _ c => f24 c ++ List.replicate 80 mkS4)) {k : Nat} (hk : k < lf.length) : ∃ gq gc, uf = some ⟨gq, 0, none⟩ ∧ lf[k].2 = .slice (some ⟨gc, 0, none⟩) lf[k].1.code.length (lf[k].1.code.length + 80) ∧ (w.cell? ⟨gq, k * 4, none⟩ = some (.string lf[k].1.name) ∧ w.cell? ⟨gq, k * 4 + 1, none⟩ = some (.int .i64 lf[k].1.pa) ∧ w.cell? ⟨gq, k * 4 + 2, none⟩ = some (.int .i64 lf[k].1.lo) ∧ w.cell? ⟨gq, k * 4 + 3, none⟩ = some (.slice (some ⟨gc, 0, none⟩) lf[k].1.code.length (lf[k].1.code.length + 80))) ∧ RwI w gc (f24 lf[k].1.code ++ List.replicate 80 mkS4) := by
  have l1 : (codesS ls).length = ls.length := by simp [codesS]
  have hl2 : (codesR lf).length = lf.length := by simp [codesR]
  have hj : ls.length + k < (codesS ls ++ codesR lf).length := by rw [List.length_append]; omega
  have hx := h.cd.2.2 (ls.length + k) hj (by rw [← h.cd.1]; exact hj)
  have f1 : (codesS ls ++ codesR lf)[ls.length + k] = (lf[k]).2 := by rw [List.getElem_append_right (by omega)]; simp [codesR, l1]
  have f2 : (codLs ls lf)[ls.length + k]'(by rw [← h.cd.1]; exact hj) = (lf[k]).1.code := (List.getElem_append_right (by simp)).trans (by simp)
  rw [f1, f2] at hx
  obtain ⟨gc, e5, -, -, hr⟩ := hx
  obtain ⟨gq, c', e, hc⟩ := own_some h.rf (by omega)
  injection e with e6 e7 e8
  have key : ∀ j, j < 4 → w.cell? ⟨gq, k * 4 + j, none⟩ = (rvC lf[k])[j]? := fun j hj => (hc _ (by omega)).trans (rvC_at lf k hk j hj)
  refine ⟨gq, gc, e6, e5, ⟨?_, ?_, ?_, ?_⟩, hr⟩
  · exact key 0 (by omega)
  · exact key 1 (by omega)
  · exact key 2 (by omega)
  · rw [← e5]; exact key 3 (by omega)
end
/-- What is copied out of a block of instructions. -/
theorem RwI.src {w : World} {g : Nat} {c r : List Ins} (h : RwI w g (c ++ r)) : ∀ j u, (insC c)[j]? = some u → w.cell? ((⟨g, 0, none⟩ : Addr).add j) = some u := fun j u hu => by
  rw [add_at, cell_of_row w g j _ 56 (0, 0) h, List.getElem?_toArray, insC_append, List.getElem?_append_left (List.getElem?_eq_some_iff.1 hu).1]
  exact hu
end Go.Proofs.YtpolajoephjdhaaGreatDoor

/-
  CodeEncodes: the copy as it is read; one small program.
-/
namespace Go.Proofs.YtpolajoephjdhaaGreatDoor
open Go.RowKit
set_option maxRecDepth 100000
theorem six24 {p : Pg} (h : Six p) : Six (codP f24 p) := by
  refine ⟨fun s hs => ?_, fun r hr => ?_⟩
  · obtain ⟨t, ht, rfl⟩ := List.mem_map.1 hs
    obtain ⟨a, b, c, d, e, f, -⟩ := h.1 t ht
    exact ⟨a, b, c, d, e, f, f24_six _⟩
  · obtain ⟨t, ht, rfl⟩ := List.mem_map.1 hr
    obtain ⟨a, b, -⟩ := h.2 t ht
    exact ⟨a, b, f24_six _⟩
theorem LN.pgm {w0 w : World} {M Nb N : Nat} {ls : List (Sy × Sv)} {lf : List (Rt × Value)} {vs vf : Value} (h : LN w0 w M Nb ls lf vs vf) (hst : ∀ p ∈ ls, SetIn w N p.1.wi p.2.v1 ∧ SetIn w N p.1.wo p.2.v2 ∧ SetIn w N p.1.re p.2.v3 ∧ SetIn w N p.1.wr p.2.v4) (h6 : Six ⟨ls.map Prod.fst, lf.map Prod.fst⟩) (hz : ∀ p ∈ ls, p.1.wi.length ≤ 1048576 ∧ p.1.wo.length ≤ 1048576 ∧ p.1.re.length ≤ 1048576 ∧ p.1.wr.length ≤ 1048576) : Pgm Qt w vs vf ⟨ls.map Prod.fst, lf.map Prod.fst⟩ := by
  refine ⟨sys_of h.rs fun p hp => ?_, rts_of h.rf fun p hp => ?_⟩
  · obtain ⟨i1, i2, s1, s2, s3, s4, s5⟩ := h6.1 p.1 (List.mem_map.2 ⟨p, hp, rfl⟩)
    obtain ⟨t1, t2, t3, t4⟩ := hst p hp
    obtain ⟨z1, z2, z3, z4⟩ := hz p hp
    exact ⟨i1, i2, ⟨t1.nl s1 z1, t2.nl s2 z2, t3.nl s3 z3, t4.nl s4 z4⟩, cp_il (h.cs p hp) s5⟩
  · obtain ⟨i1, i2, s5⟩ := h6.2 p.1 (List.mem_map.2 ⟨p, hp, rfl⟩)
    exact ⟨i1, i2, cp_il (h.cf p hp) s5⟩
def pgf : Pg := ⟨[], [⟨⟨#[102]⟩, 0, 0, []⟩]⟩
theorem pgf_B : enB pgf = [0, 1, 1, 102, 0, 0, 0] := by decide +kernel
theorem pgf_E : enE pgf = 0 := by decide +kernel
theorem pgf_at {w : World} {g : Nat} (h : w.heap[g]? = some (.cells #[.string ⟨#[102]⟩, .int .i64 0, .int .i64 0, .slice none 0 0] 45 (0, 0))) : Pgm Qt w (.slice none 0 0) (.slice (some ⟨g, 0, none⟩) 1 1) pgf := by
  obtain ⟨c0, c1, c2, c3⟩ := row4 h
  refine ⟨⟨none, 0, rfl, Nat.le_refl _, Nat.zero_le _, fun h0 => absurd h0 (by simp [pgf])⟩, some ⟨g, 0, none⟩, 1, rfl, Nat.le_refl _, by decide, fun _ => ⟨g, 0, rfl, trivial, fun i hi => ?_⟩⟩
  have e0 : i = 0 := by simp [pgf] at hi; exact hi
  subst e0
  have i0 : I6 (0 : Int) := ⟨by decide, by decide⟩
  exact ⟨i0, i0, _, c0, c1, c2, c3, ⟨none, 0, rfl, Nat.le_refl _, Nat.zero_le _, fun h0 => absurd h0 (by simp [pgf])⟩⟩
theorem enB_len {p : Pg} (h1 : ∀ y ∈ p.sys, Sy6 y) (h2 : ∀ y ∈ p.fns, Rt6 y) : (enB p).length ≤ 2000000 := by
  unfold enB
  by_cases hm : mayOk p = true
  · rw [if_pos hm]
    unfold mayOk at hm
    simp only [Bool.and_eq_true, decide_eq_true_eq] at hm
    obtain ⟨⟨⟨⟨a1, a2⟩, a3⟩, a4⟩, -⟩ := hm
    have k1 := flat_len sysBy 42000 (l := p.sys) (fun y hy => sysBy_len (List.all_eq_true.1 a3 y hy) (h1 y hy))
    have k2 := flat_len rtBy 41000 (l := p.fns) (fun y hy => rtBy_len (List.all_eq_true.1 a4 y hy) (h2 y hy))
    have k3 := uv_len (n := p.sys.length) (by omega)
    have k4 := uv_len (n := p.fns.length) (by omega)
    unfold pgBy
    simp only [List.length_append]
    omega
  · rw [if_neg hm]
    simp
end Go.Proofs.YtpolajoephjdhaaGreatDoor

/-
  Lists of bytes that read as a mark, and grow.
-/
namespace Go.Proofs.YtpolajoephjdhaaGreatDoor
open Go.RowKit
/-- The mark of the i-th list. -/
def mkY (i : Nat) : Value := .int .u8 ((i : Int) + 1)
def marY (i : Nat) (l : List Value) (k : Nat) : List Value := List.replicate k (mkY i) ++ l.drop k
theorem marY_len (i : Nat) (l : List Value) (k : Nat) (hk : k ≤ l.length) : (marY i l k).length = l.length := by simp [marY]; omega
theorem marY_set (i : Nat) (l : List Value) (k : Nat) (hk : k < l.length) : (marY i l k).set k (mkY i) = marY i l (k + 1) := by
  unfold marY
  rw [List.set_append_right _ _ (by simp), List.length_replicate, Nat.sub_self, List.drop_eq_getElem_cons hk, List.set_cons_zero, List.replicate_succ', List.append_assoc]
  rfl
theorem marY_end (i : Nat) (l : List Value) : marY i l l.length = List.replicate l.length (mkY i) := by simp [marY]
theorem repY_snoc (i n : Nat) : List.replicate n (mkY i) ++ [mkY i] = List.replicate (n + 1) (mkY i) := by rw [List.replicate_succ']
/-- A list that reads as the mark of the i-th. -/
def RdY (w : World) (v : Value) (n i : Nat) : Prop := ∃ ao c, v = .slice ao n c ∧ n ≤ c ∧ c ≤ 9223372036854775807 ∧ (0 < n → ∃ g, ao = some ⟨g, 0, none⟩ ∧ ∀ k, k < n → w.cell? ⟨g, k, none⟩ = some (mkY i))
theorem own_rdy {w : World} {N n i : Nat} {v : Value} (h : w.ownsRow N 5 1 v n (List.replicate n (mkY i))) : RdY w v n i := by
  have h' := h
  obtain ⟨-, ⟨rfl, rfl⟩ | ⟨g, cap, cur, rfl, hB, hg, h1, h2, -⟩⟩ := h
  · exact ⟨none, 0, rfl, Nat.le_refl _, by omega, fun e => by omega⟩
  · refine ⟨_, _, rfl, h1, by unfold maxLen at h2; omega, fun _ => ⟨g, rfl, fun k hk => ?_⟩⟩
    exact (h'.cellAt k (by omega)).trans (by rw [List.getElem?_replicate, if_pos hk])
theorem RdY.mv {w w' : World} {v : Value} {n i : Nat} {S : Nat → Prop} (h : RdY w v n i) (hm : Mv w w' S) (hs : ∀ j, v.ownBlock = some j → ¬ S j) : RdY w' v n i := by
  obtain ⟨ao, c, rfl, h1, h2, h3⟩ := h
  refine ⟨ao, c, rfl, h1, h2, fun h0 => ?_⟩
  obtain ⟨g, rfl, h4⟩ := h3 h0
  exact ⟨g, rfl, fun k hk => hm.cell (h4 k hk) (hs g rfl)⟩
theorem RdY.later {w w' : World} {v : Value} {n i : Nat} (h : RdY w v n i) (hb : Below w.heap.size w w') : RdY w' v n i := h.mv (Mv.of_below hb (fun _ => False)) (fun _ _ e => e)
/-- What is appended behind leaves it as it reads. -/
theorem RdY.keep {w w' : World} {v u : Value} {n k i : Nat} (h : RdY w v n i) (hg : w.grownBy w' u.ownBlock) (hu : ∀ g j, u.ownBlock = some g → j < k * 1 → w'.cell? ⟨g, j, none⟩ = w.cell? ⟨g, j, none⟩) (hk : n ≤ k) : RdY w' v n i := by
  obtain ⟨ao, c, rfl, h1, h2, h3⟩ := h
  refine ⟨ao, c, rfl, h1, h2, fun h0 => ?_⟩
  obtain ⟨g, rfl, h4⟩ := h3 h0
  refine ⟨g, rfl, fun j hj => ?_⟩
  by_cases e : u.ownBlock = some g
  · exact (hu g j e (by omega)).trans (h4 j hj)
  · have m := (Mv.refl w (fun q => u.ownBlock = some q)).grown hg (fun _ _ e => e)
    exact m.cell (h4 j hj) e
theorem RdY.at {w : World} {v : Value} {n k i : Nat} (h : RdY w v n i) (hk : k < n) : ∃ g c, v = .slice (some ⟨g, 0, none⟩) n c ∧ w.cell? ⟨g, k, none⟩ = some (mkY i) := by
  obtain ⟨ao, c, rfl, h1, h2, h3⟩ := h
  obtain ⟨g, rfl, h4⟩ := h3 (by omega)
  exact ⟨g, c, rfl, h4 k hk⟩
/-- Lists of numbers in the hands of one owner, apart from one another: the first k are marked. -/
def MkY (w : World) (N : Nat) (xs : List Value) (ls : List (List Value)) (k : Nat) : Prop := xs.length = ls.length ∧ xs.Pairwise Ap ∧ ∀ i (h : i < xs.length) (h' : i < ls.length), w.ownsRow N 5 1 xs[i] ls[i].length (if i < k then List.replicate ls[i].length (mkY i) else ls[i])
theorem MkY.mv {w w' : World} {N k : Nat} {xs : List Value} {ls : List (List Value)} {S : Nat → Prop} (h : MkY w N xs ls k) (hm : Mv w w' S) (hs : ∀ v ∈ xs, ∀ j, v.ownBlock = some j → ¬ S j) : MkY w' N xs ls k := ⟨h.1, h.2.1, fun i a b => hm.own (h.2.2 i a b) (fun g e => hs _ (List.getElem_mem a) g e)⟩
/-- One list more is marked: what else the owner holds stays. -/
theorem MkY.next {w w' : World} {N k : Nat} {xs : List Value} {ls : List (List Value)} (h : MkY w N xs ls k) (hk : k < xs.length) (hk' : k < ls.length) (hm : Mv w w' (fun j => (xs[k]).ownBlock = some j)) (ho : w'.ownsRow N 5 1 xs[k] ls[k].length (List.replicate ls[k].length (mkY k))) : MkY w' N xs ls (k + 1) := by
  refine ⟨h.1, h.2.1, fun i a b => ?_⟩
  by_cases e : i = k
  · subst e
    rw [if_pos (by omega)]
    exact ho
  · have h1 := hm.own (h.2.2 i a b) (fun g e1 e2 => pair_at h.2.1 i k a hk e g e1 e2)
    by_cases hl : i < k
    · rw [if_pos hl] at h1
      rw [if_pos (by omega)]
      exact h1
    · rw [if_neg hl] at h1
      rw [if_neg (by omega)]
      exact h1
/-- Lists that were marked; some of them grown, by headers of their own. -/
structure GroY (W w : World) (N Q : Nat) (xs : List Value) (ls : List (List Value)) (ys : List Value) (vl : Value) : Prop where
  row : w.ownsRow Q 22 1 vl (xs.length + ys.length) (xs ++ ys)
  old : ∀ a (h : a < xs.length) (h' : a < ls.length), RdY w xs[a] ls[a].length a
  new : ∀ a (h : a < ys.length) (h' : a < ls.length), RdY w ys[a] (ls[a].length + 70) a
  own : ∀ a (h : a < xs.length) (h' : a < ls.length), ys.length ≤ a → w.ownsRow N 5 1 xs[a] ls[a].length (List.replicate ls[a].length (mkY a))
  blk : ∀ a (h : a < ys.length) (h' : a < xs.length), ∀ j, (ys[a]).ownBlock = some j → j < w.heap.size ∧ (W.heap.size ≤ j ∨ (xs[a]).ownBlock = some j)
  offX : ∀ a (h : a < xs.length), ∀ j, (xs[a]).ownBlock = some j → vl.ownBlock ≠ some j
  offY : ∀ a (h : a < ys.length), ∀ j, (ys[a]).ownBlock = some j → vl.ownBlock ≠ some j
theorem GroY.next {W w0 w w9 : World} {N Q : Nat} {xs ys : List Value} {ls : List (List Value)} {vl vl' v7 : Value} (h : GroY W w0 N Q xs ls ys vl) (hp : xs.Pairwise Ap) (hxW : ∀ v ∈ xs, ∀ j, v.ownBlock = some j → j < W.heap.size) (hW : W.heap.size ≤ w0.heap.size) (hx : ys.length < xs.length) (hl : ys.length < ls.length) (m1 : Mv w0 w (fun j => (xs[ys.length]).ownBlock = some j)) (rd : RdY w xs[ys.length] ls[ys.length].length ys.length) (o : w.ownsRow N 5 1 v7 (ls[ys.length].length + 70) (List.replicate (ls[ys.length].length + 70) (mkY ys.length))) (bl : ∀ j, v7.ownBlock = some j → w0.heap.size ≤ j ∨ (xs[ys.length]).ownBlock = some j) (m2 : Mv w w9 (fun j => vl.ownBlock = some j)) (ho : w9.ownsRow Q 22 1 vl' (xs.length + (ys.length + 1)) (xs ++ (ys ++ [v7]))) (hv : ∀ j, vl.ownBlock = some j → j < w0.heap.size) (hb : ∀ j, vl'.ownBlock = some j → w.heap.size ≤ j ∨ vl.ownBlock = some j) : GroY W w9 N Q xs ls (ys ++ [v7]) vl' := by
  have s1 := m1.size
  have s2 := m2.size
  have x7 : ∀ j, v7.ownBlock = some j → vl.ownBlock ≠ some j := fun j e e2 => by
    rcases bl j e with h1 | h1
    · have := hv j e2
      omega
    · exact h.offX _ hx j h1 e2
  have yx : ∀ a (ha : a < ys.length), ∀ j, (ys[a]).ownBlock = some j → ¬ (xs[ys.length]).ownBlock = some j := fun a ha j e1 e2 => by
    rcases (h.blk a ha (by omega) j e1).2 with h1 | h1
    · have := hxW _ (List.getElem_mem hx) j e2
      omega
    · exact pair_at hp a ys.length (by omega) hx (by omega) j h1 e2
  refine ⟨by rw [List.length_append]; exact ho, fun a ha hb' => ?_, fun a ha hb' => ?_, fun a ha hb' hc => ?_, fun a ha hb' j e => ?_, fun a ha j e e2 => ?_, fun a ha j e e2 => ?_⟩
  · by_cases ea : a = ys.length
    · subst ea
      exact rd.mv m2 (fun j e1 e2 => h.offX _ hx j e1 e2)
    · exact ((h.old a ha hb').mv m1 (fun j e1 e2 => pair_at hp a ys.length ha hx ea j e1 e2)).mv m2 (fun j e1 e2 => h.offX a ha j e1 e2)
  · rw [List.length_append] at ha
    by_cases ea : a = ys.length
    · subst ea
      rw [List.getElem_append_right (Nat.le_refl _)]
      simp only [Nat.sub_self, List.getElem_singleton]
      exact (own_rdy o).mv m2 (fun j e1 e2 => x7 j e1 e2)
    · have ha' : a < ys.length := by simp at ha; omega
      rw [List.getElem_append_left ha']
      exact ((h.new a ha' hb').mv m1 (fun j e1 e2 => yx a ha' j e1 e2)).mv m2 (fun j e1 e2 => h.offY a ha' j e1 e2)
  · rw [List.length_append] at hc
    simp at hc
    exact m2.own (m1.own (h.own a ha hb' (by omega)) (fun g e1 e2 => pair_at hp a ys.length ha hx (by omega) g e1 e2)) (fun g e1 e2 => h.offX a ha g e1 e2)
  · rw [List.length_append] at ha
    by_cases ea : a = ys.length
    · subst ea
      rw [List.getElem_append_right (Nat.le_refl _)] at e
      simp only [Nat.sub_self, List.getElem_singleton] at e
      have := (o.lt j e).2
      refine ⟨by omega, ?_⟩
      rcases bl j e with h1 | h1
      · exact .inl (by omega)
      · exact .inr h1
    · have ha' : a < ys.length := by simp at ha; omega
      rw [List.getElem_append_left ha'] at e
      obtain ⟨h1, h2⟩ := h.blk a ha' hb' j e
      exact ⟨by omega, h2⟩
  · rcases hb j e2 with h1 | h1
    · have := hxW _ (List.getElem_mem ha) j e
      omega
    · exact h.offX a ha j e h1
  · rw [List.length_append] at ha
    by_cases ea : a = ys.length
    · subst ea
      rw [List.getElem_append_right (Nat.le_refl _)] at e
      simp only [Nat.sub_self, List.getElem_singleton] at e
      rcases hb j e2 with h1 | h1
      · have := (o.lt j e).2
        omega
      · exact x7 j e h1
    · have ha' : a < ys.length := by simp at ha; omega
      rw [List.getElem_append_left ha'] at e
      rcases hb j e2 with h1 | h1
      · have := (h.blk a ha' (by omega) j e).1
        omega
      · exact h.offY a ha' j e h1
theorem three_mk {w : World} {N p q : Nat} {vb vx vd : Value} {eb lx : List UInt8} (o1 : w.ownsRow N 5 1 vb eb.length (Lib.byteCells eb)) (o2 : w.ownsRow N 5 1 vx lx.length (Lib.byteCells lx)) (o3 : w.ownsRow N 5 1 vd eb.length (Lib.byteCells eb)) (bx : ∀ j, vb.ownBlock = some j → j < p) (xx : ∀ j, vx.ownBlock = some j → p ≤ j ∧ j < q) (dx : ∀ j, vd.ownBlock = some j → q ≤ j) (hpq : p ≤ q) : MkY w N [vb, vx, vd] [Lib.byteCells eb, Lib.byteCells lx, Lib.byteCells eb] 0 := by
  refine ⟨rfl, ?_, fun i h h' => ?_⟩
  · simp only [List.pairwise_cons, List.mem_cons, List.not_mem_nil, or_false, List.Pairwise.nil, and_true]
    refine ⟨?_, ?_, fun _ h => h.elim⟩
    · rintro u (rfl | rfl) g e1 e2
      · have := bx g e1
        have := xx g e2
        omega
      · have := bx g e1
        have := dx g e2
        omega
    · rintro u rfl g e1 e2
      have := xx g e1
      have := dx g e2
      omega
  · rw [if_neg (by omega)]
    match i, h, h' with
    | 0, _, _ => simp only [List.getElem_cons_zero]; rw [Lib.byteCells_length]; exact o1
    | 1, _, _ => simp only [List.getElem_cons_zero, List.getElem_cons_succ]; rw [Lib.byteCells_length]; exact o2
    | 2, _, _ => simp only [List.getElem_cons_zero, List.getElem_cons_succ]; rw [Lib.byteCells_length]; exact o3
theorem three_len {eb lx : List UInt8} (h : eb.length ≤ 2000000) (hl : lx.length ≤ 2000000) : ∀ l ∈ [Lib.byteCells eb, Lib.byteCells lx, Lib.byteCells eb], l.length ≤ 2000000 := fun l hm => by
  simp only [List.mem_cons, List.not_mem_nil, or_false] at hm
  rcases hm with rfl | rfl | rfl <;> rw [Lib.byteCells_length] <;> assumption
theorem three_row {w : World} {Q : Nat} {vb vx vd : Value} (nL : w.heap[Q]? = some (.cells #[vb, vx, vd] 22 (0, 0))) : w.ownsRow Q 22 1 (.slice (some ⟨Q, 0, none⟩) 3 3) [vb, vx, vd].length [vb, vx, vd] := ⟨rfl, .inr ⟨Q, 3, _, rfl, Nat.le_refl _, nL, Nat.le_refl _, by decide, rfl, rfl⟩⟩
theorem three_fwd {W wL : World} {N Q m : Nat} {vl : Value} {xs : List Value} {lb : List (List Value)} (hb : Below W.heap.size W wL) (hO : wL.ownsRow Q 22 1 vl m xs) (hM : MkY wL N xs lb 0) (hN : W.heap.size ≤ N) (hQ : W.heap.size ≤ Q) : ∀ w', Mv wL w' (fun j => vl.ownBlock = some j ∨ ∃ v ∈ xs, v.ownBlock = some j) → Below W.heap.size W w' := fun w' hm => hb.trans (hm.below hb.size (fun j e => by
  rcases e with e | ⟨v, hv, e⟩
  · have := (hO.lt j e).1
    omega
  · obtain ⟨i, hi, rfl⟩ := List.mem_iff_getElem.1 hv
    have := ((hM.2.2 i hi (by rw [← hM.1]; exact hi)).lt j e).1
    omega))
theorem three_apart {wL : World} {N Q n : Nat} {vl : Value} {xs : List Value} {lb : List (List Value)} (hO : wL.ownsRow Q 22 1 vl n xs) (hM : MkY wL N xs lb 0) : ∀ v ∈ xs, ∀ j, v.ownBlock = some j → ¬ vl.ownBlock = some j := fun v hv j e1 e2 => by
  obtain ⟨i, hi, rfl⟩ := List.mem_iff_getElem.1 hv
  exact own_types hO (hM.2.2 i hi (by rw [← hM.1]; exact hi)) (by decide) j e2 e1
end Go.Proofs.YtpolajoephjdhaaGreatDoor

/-
  CodeEncodes: its frame, and what stands behind a statement of it.
-/
namespace Go.Proofs.YtpolajoephjdhaaGreatDoor
open Go.RowKit
set_option maxRecDepth 1000000
noncomputable def bodyE : Code := (Tryz.f4.body.getD .skip)
/-- What stands behind so many statements. -/
def tailN : Nat → Code → Code
  | 0, c => c
  | n + 1, .seq _ b => tailN n b
  | _, c => c
/-- The statement of this number. -/
def headN : Nat → Code → Code
  | 0, .seq a _ => a
  | n + 1, .seq _ b => headN n b
  | _, c => c
def rdF (ds : List Deferred) (s : Nat → Value) : Act := { tmps := ((List.range 478).map s).toArray, defers := ds }
theorem rdF_lit (ds : List Deferred) (s : Nat → Value) : rdF ds s = { tmps := #[s 0, s 1, s 2, s 3, s 4, s 5, s 6, s 7, s 8, s 9, s 10, s 11, s 12, s 13, s 14, s 15, s 16, s 17, s 18, s 19, s 20, s 21, s 22, s 23, s 24, s 25, s 26, s 27, s 28, s 29, s 30, s 31, s 32, s 33, s 34, s 35, s 36, s 37, s 38, s 39, s 40, s 41, s 42, s 43, s 44, s 45, s 46, s 47, s 48, s 49, s 50, s 51, s 52, s 53, s 54, s 55, s 56, s 57, s 58, s 59, s 60, s 61, s 62, s 63, s 64, s 65, s 66, s 67, s 68, s 69, s 70, s 71, s 72, s 73, s 74, s 75, s 76, s 77, s 78, s 79, s 80, s 81, s 82, s 83, s 84, s 85, s 86, s 87, s 88, s 89, s 90, s 91, s 92, s 93, s 94, s 95, s 96, s 97, s 98, s 99, s 100, s 101, s 102, s 103, s 104, s 105, s 106, s 107, s 108, s 109, s 110, s 111, s 112, s 113, s 114, s 115, s 116, s 117, s 118, s 119, s 120, s 121, s 122, s 123, s 124, s 125, s 126, s 127, s 128, s 129, s 130, s 131, s 132, s 133, s 134, s 135, s 136, s 137, s 138, s 139, s 140, s 141, s 142, s 143, s 144, s 145, s 146, s 147, s 148, s 149, s 150, s 151, s 152, s 153, s 154, s 155, s 156, s 157, s 158, s 159, s 160, s 161, s 162, s 163, s 164, s 165, s 166, s 167, s 168, s 169, s 170, s 171, s 172, s 173, s 174, s 175, s 176, s 177, s 178, s 179, s 180, s 181, s 182, s 183, s 184, s 185, s 186, s 187, s 188, s 189, s 190, s 191, s 192, s 193, s 194, s 195, s 196, s 197, s 198, s 199, s 200, s 201, s 202, s 203, s 204, s 205, s 206, s 207, s 208, s 209, s 210, s 211, s 212, s 213, s 214, s 215, s 216, s 217, s 218, s 219, s 220, s 221, s 222, s 223, s 224, s 225, s 226, s 227, s 228, s 229, s 230, s 231, s 232, s 233, s 234, s 235, s 236, s 237, s 238, s 239, s 240, s 241, s 242, s 243, s 244, s 245, s 246, s 247, s 248, s 249, s 250, s 251, s 252, s 253, s 254, s 255, s 256, s 257, s 258, s 259, s 260, s 261, s 262, s 263, s 264, s 265, s 266, s 267, s 268, s 269, s 270, s 271, s 272, s 273, s 274, s 275, s 276, s 277, s 278, s 279, s 280, s 281, s 282, s 283, s 284, s 285, s 286, s 287, s 288, s 289, s 290, s 291, s 292, s 293, s 294, s 295, s 296, s 297, s 298, s 299, s 300, s 301, s 302, s 303, s 304, s 305, s 306, s 307, s 308, s 309, s 310, s 311, s 312, s 313, s 314, s 315, s 316, s 317, s 318, s 319, s 320, s 321, s 322, s 323, s 324, s 325, s 326, s 327, s 328, s 329, s 330, s 331, s 332, s 333, s 334, s 335, s 336, s 337, s 338, s 339, s 340, s 341, s 342, s 343, s 344, s 345, s 346, s 347, s 348, s 349, s 350, s 351, s 352, s 353, s 354, s 355, s 356, s 357, s 358, s 359, s 360, s 361, s 362, s 363, s 364, s 365, s 366, s 367, s 368, s 369, s 370, s 371, s 372, s 373, s 374, s 375, s 376, s 377, s 378, s 379, s 380, s 381, s 382, s 383, s 384, s 385, s 386, s 387, s 388, s 389, s 390, s 391, s 392, s 393, s 394, s 395, s 396, s 397, s 398, s 399, s 400, s 401, s 402, s 403, s 404, s 405, s 406, s 407, s 408, s 409, s 410, s 411, s 412, s 413, s 414, s 415, s 416, s 417, s 418, s 419, s 420, s 421, s 422, s 423, s 424, s 425, s 426, s 427, s 428, s 429, s 430, s 431, s 432, s 433, s 434, s 435, s 436, s 437, s 438, s 439, s 440, s 441, s 442, s 443, s 444, s 445, s 446, s 447, s 448, s 449, s 450, s 451, s 452, s 453, s 454, s 455, s 456, s 457, s 458, s 459, s 460, s 461, s 462, s 463, s 464, s 465, s 466, s 467, s 468, s 469, s 470, s 471, s 472, s 473, s 474, s 475, s 476, s 477], defers := ds } := by
  unfold rdF
  rfl
theorem act_eta (A : Act) (ds : List Deferred) (hs : A.tmps.size = 478) (hd : A.defers = ds) : A = rdF ds (fun k => A.tmps.getD k undef) := by
  obtain ⟨t, d⟩ := A
  dsimp only at hs hd
  subst hd
  unfold rdF
  congr 1
  apply Array.ext
  · rw [hs]; simp
  · intro i h1 h2
    dsimp only
    have e : ∀ h, ((List.range 478).map (fun k => t.getD k undef)).toArray[i]'h = t.getD i undef := fun h => by simp
    rw [e, Array.getD_eq_getD_getElem?, Array.getElem?_eq_getElem h1]
    rfl
theorem act_open (A : Act) (ds : List Deferred) (hs : A.tmps.size = 478) (hd : A.defers = ds) : ∃ s : Nat → Value, A = { tmps := #[s 0, s 1, s 2, s 3, s 4, s 5, s 6, s 7, s 8, s 9, s 10, s 11, s 12, s 13, s 14, s 15, s 16, s 17, s 18, s 19, s 20, s 21, s 22, s 23, s 24, s 25, s 26, s 27, s 28, s 29, s 30, s 31, s 32, s 33, s 34, s 35, s 36, s 37, s 38, s 39, s 40, s 41, s 42, s 43, s 44, s 45, s 46, s 47, s 48, s 49, s 50, s 51, s 52, s 53, s 54, s 55, s 56, s 57, s 58, s 59, s 60, s 61, s 62, s 63, s 64, s 65, s 66, s 67, s 68, s 69, s 70, s 71, s 72, s 73, s 74, s 75, s 76, s 77, s 78, s 79, s 80, s 81, s 82, s 83, s 84, s 85, s 86, s 87, s 88, s 89, s 90, s 91, s 92, s 93, s 94, s 95, s 96, s 97, s 98, s 99, s 100, s 101, s 102, s 103, s 104, s 105, s 106, s 107, s 108, s 109, s 110, s 111, s 112, s 113, s 114, s 115, s 116, s 117, s 118, s 119, s 120, s 121, s 122, s 123, s 124, s 125, s 126, s 127, s 128, s 129, s 130, s 131, s 132, s 133, s 134, s 135, s 136, s 137, s 138, s 139, s 140, s 141, s 142, s 143, s 144, s 145, s 146, s 147, s 148, s 149, s 150, s 151, s 152, s 153, s 154, s 155, s 156, s 157, s 158, s 159, s 160, s 161, s 162, s 163, s 164, s 165, s 166, s 167, s 168, s 169, s 170, s 171, s 172, s 173, s 174, s 175, s 176, s 177, s 178, s 179, s 180, s 181, s 182, s 183, s 184, s 185, s 186, s 187, s 188, s 189, s 190, s 191, s 192, s 193, s 194, s 195, s 196, s 197, s 198, s 199, s 200, s 201, s 202, s 203, s 204, s 205, s 206, s 207, s 208, s 209, s 210, s 211, s 212, s 213, s 214, s 215, s 216, s 217, s 218, s 219, s 220, s 221, s 222, s 223, s 224, s 225, s 226, s 227, s 228, s 229, s 230, s 231, s 232, s 233, s 234, s 235, s 236, s 237, s 238, s 239, s 240, s 241, s 242, s 243, s 244, s 245, s 246, s 247, s 248, s 249, s 250, s 251, s 252, s 253, s 254, s 255, s 256, s 257, s 258, s 259, s 260, s 261, s 262, s 263, s 264, s 265, s 266, s 267, s 268, s 269, s 270, s 271, s 272, s 273, s 274, s 275, s 276, s 277, s 278, s 279, s 280, s 281, s 282, s 283, s 284, s 285, s 286, s 287, s 288, s 289, s 290, s 291, s 292, s 293, s 294, s 295, s 296, s 297, s 298, s 299, s 300, s 301, s 302, s 303, s 304, s 305, s 306, s 307, s 308, s 309, s 310, s 311, s 312, s 313, s 314, s 315, s 316, s 317, s 318, s 319, s 320, s 321, s 322, s 323, s 324, s 325, s 326, s 327, s 328, s 329, s 330, s 331, s 332, s 333, s 334, s 335, s 336, s 337, s 338, s 339, s 340, s 341, s 342, s 343, s 344, s 345, s 346, s 347, s 348, s 349, s 350, s 351, s 352, s 353, s 354, s 355, s 356, s 357, s 358, s 359, s 360, s 361, s 362, s 363, s 364, s 365, s 366, s 367, s 368, s 369, s 370, s 371, s 372, s 373, s 374, s 375, s 376, s 377, s 378, s 379, s 380, s 381, s 382, s 383, s 384, s 385, s 386, s 387, s 388, s 389, s 390, s 391, s 392, s 393, s 394, s 395, s 396, s 397, s 398, s 399, s 400, s 401, s 402, s 403, s 404, s 405, s 406, s 407, s 408, s 409, s 410, s 411, s 412, s 413, s 414, s 415, s 416, s 417, s 418, s 419, s 420, s 421, s 422, s 423, s 424, s 425, s 426, s 427, s 428, s 429, s 430, s 431, s 432, s 433, s 434, s 435, s 436, s 437, s 438, s 439, s 440, s 441, s 442, s 443, s 444, s 445, s 446, s 447, s 448, s 449, s 450, s 451, s 452, s 453, s 454, s 455, s 456, s 457, s 458, s 459, s 460, s 461, s 462, s 463, s 464, s 465, s 466, s 467, s 468, s 469, s 470, s 471, s 472, s 473, s 474, s 475, s 476, s 477], defers := ds } ∧ ∀ k, A.tmps.getD k undef = s k :=
  ⟨fun k => A.tmps.getD k undef, (act_eta A ds hs hd).trans (rdF_lit ds _), fun _ => rfl⟩
/-- What is asked of the end. -/
def QE (W : World) : Exit → Act → World → Prop := bodyPost Tryz.prog Tryz.f4 fun e w' => e = .returned (.bool true) ∧ Below W.heap.size W w'
/-- What is handed on behind a statement. -/
def Nxt (k : Nat) (W : World) (K : Act → World → Prop) : Prop := ∀ a w, Code.wp Tryz.prog (tailN k bodyE) (QE W) a w → K a w
end Go.Proofs.YtpolajoephjdhaaGreatDoor
