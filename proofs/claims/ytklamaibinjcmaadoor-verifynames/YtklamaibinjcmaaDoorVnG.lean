/-
  VerifyNames: the walk.
-/
import Derived.Test.YtklamaibinjcmaaDoorVnF
namespace Go.Proofs.YtklamaibinjcmaaDoor
open Go.RowKit
set_option maxRecDepth 100000
def atO (o : Option (Int × Int)) : Int := (o.map Prod.fst).getD 0
def erN (o : Option (Int × Int)) : Int := (o.map Prod.snd).getD 0
theorem vo_ne {p : Pg} {ks : List Kind} {a e : Int} (h : Vo p ks (some (a, e))) : e ≠ 0 := by
  rcases h with ⟨-, h⟩ | ⟨-, -, h⟩ | ⟨-, -, on, -, h⟩
  · cases h; decide
  · cases h; decide
  rcases h with ⟨n, -, h⟩ | ⟨-, o1, h1, h⟩
  · cases h; decide
  rcases h with ⟨x, rfl, h⟩ | ⟨-, on, -, h⟩
  · cases h
    rcases h1 with ⟨h1, -⟩ | ⟨n, b, hn, -, -, h1⟩
    · cases h1
    · cases h1
      unfold tbE
      split <;> decide
  rcases h with ⟨n, -, h⟩ | ⟨-, o3, h3, h⟩
  · cases h; decide
  rcases h with ⟨x, rfl, h⟩ | ⟨-, h⟩
  · cases h
    rcases h3 with ⟨h3, -⟩ | ⟨n, hn, -, ⟨-, h3⟩ | ⟨b, -, h4, h3⟩⟩
    · cases h3
    · cases h3; decide
    · cases h3
      exact h4.2.1.2
  · rcases h with ⟨h, -⟩ | ⟨n, b, hn, -, -, h⟩
    · cases h
    · cases h; decide
theorem lfV_eq {p : Pg} {ks : List Kind} {o : Option (Int × Int)} (h : Vo p ks o) : lfV o = .tuple #[.int .i64 (atO o), .int .i64 (erN o), .bool true] := by
  cases o with
  | none => rfl
  | some x =>
    obtain ⟨a, e⟩ := x
    have := vo_ne h
    unfold lfV atO erN
    simp [this]
theorem vo_may {p : Pg} {ks : List Kind} {o : Option (Int × Int)} (h : Vo p ks o) (h1 : erN o ≠ 65) (h2 : erN o ≠ 130) : mayB ks ∧ mayOk p = true := by
  rcases h with ⟨-, rfl⟩ | ⟨-, -, rfl⟩ | ⟨h3, h4, -⟩
  · exact absurd rfl h1
  · exact absurd rfl h2
  · exact ⟨h3, h4⟩
theorem small_of {p : Pg} (h : mayOk p = true) : (p.sys.length ≤ 16 ∧ p.fns.length ≤ 16) ∧ (∀ s ∈ p.sys, Small5 s) ∧ ∀ r ∈ p.fns, r.code.length ≤ 1000000 := by
  obtain ⟨h1, h2, h3, -⟩ := mayOk_all h
  refine ⟨h1, fun s hs => ?_, fun r hr => ?_⟩
  · obtain ⟨a, b, c, d, e⟩ := sysOk_all (h2 s hs)
    have a' := (setOk_mem a).2
    have b' := (setOk_mem b).2
    have c' := (setOk_mem c).2
    have d' := (setOk_mem d).2
    have e' := (rtOk_all e).2.2.2.1
    exact ⟨by omega, by omega, by omega, by omega, by omega⟩
  · have := (rtOk_all (h3 r hr)).2.2.2.1
    omega
/-- The program that gets other names. -/
structure Nq (N : Nat) (w W : World) (gq gs c1 gf c2 ns nf : Nat) (p : Pg) (ls : List (Sy × Lv)) (lf : List (Rt × Value)) : Prop where
  q : W.heap[gq]? = some (.cells #[.slice (some ⟨gs, 0, none⟩) ns c1, .slice (some ⟨gf, 0, none⟩) nf c2] 25 (0, 0))
  s : LS N W (.slice (some ⟨gs, 0, none⟩) ns c1) ls
  f : LF N W (.slice (some ⟨gf, 0, none⟩) nf c2) lf
  b : Below w.heap.size w W
  n : w.heap.size ≤ N
  l1 : ls.length = ns
  l2 : lf.length = nf
  er : erP ⟨ls.map Prod.fst, lf.map Prod.fst⟩ = erP p
def OkS (ls : List (Sy × Lv)) (i : Nat) : Prop := ∀ k (h : k < ls.length), k < i → okN ls[k].1.run.name
def OkF (lf : List (Rt × Value)) (i : Nat) : Prop := ∀ k (h : k < lf.length), k < i → okN lf[k].1.name
theorem OkS.set {ls : List (Sy × Lv)} {i j : Nat} {nm : ByteArray} (h : OkS ls i) (hi : j < ls.length) (hn : okN nm) (hij : i ≤ j + 1 ∧ j ≤ i ∨ j < i) : OkS (ls.set j (nmL nm ls[j])) (max i (j + 1)) := fun k hk hk2 => by
  rw [List.getElem_set]
  split
  · exact hn
  · rename_i hne
    rw [List.length_set] at hk
    exact h k hk (by omega)
theorem OkF.set {lf : List (Rt × Value)} {i j : Nat} {nm : ByteArray} (h : OkF lf i) (hi : j < lf.length) (hn : okN nm) (hij : i ≤ j + 1 ∧ j ≤ i ∨ j < i) : OkF (lf.set j (nmF nm lf[j])) (max i (j + 1)) := fun k hk hk2 => by
  rw [List.getElem_set]
  split
  · exact hn
  · rename_i hne
    rw [List.length_set] at hk
    exact h k hk (by omega)
theorem map_set_same {α β : Type} (g : α → β) (l : List α) (k : Nat) (x : α) (hk : k < l.length) (e : g x = g l[k]) : (l.set k x).map g = l.map g := by
  apply List.ext_getElem
  · simp
  · intro i h1 h2
    simp only [List.getElem_map, List.getElem_set]
    split
    · rename_i e'
      subst e'
      exact e
    · rfl
section
variable {N : Nat} {w W W' : World} {gq gs c1 gf c2 ns nf : Nat} {p : Pg} {ls : List (Sy × Lv)} {lf : List (Rt × Value)}
theorem Nq.later (h : Nq N w W gq gs c1 gf c2 ns nf p ls lf) (hb : Below W.heap.size W W') : Nq N w W' gq gs c1 gf c2 ns nf p ls lf := ⟨(hb.block _ (lt_of_block h.q)).trans h.q, h.s.later hb, h.f.later hb, below_on h.b hb, h.n, h.l1, h.l2, h.er⟩
theorem Nq.cells (h : Nq N w W gq gs c1 gf c2 ns nf p ls lf) : W.cell? ⟨gq, 0, none⟩ = some (.slice (some ⟨gs, 0, none⟩) ns c1) ∧ W.cell? ⟨gq, 1, none⟩ = some (.slice (some ⟨gf, 0, none⟩) nf c2) := by
  refine ⟨?_, ?_⟩ <;> rw [cell_of_row W _ _ _ 25 (0, 0) h.q] <;> rfl
theorem Nq.caps (h : Nq N w W gq gs c1 gf c2 ns nf p ls lf) : (ns ≤ c1 ∧ c1 ≤ 9223372036854775807) ∧ nf ≤ c2 ∧ c2 ≤ 9223372036854775807 := by
  have a := h.s.row
  have b := h.f.row
  rw [h.l1] at a
  rw [h.l2] at b
  exact ⟨own_cap a, own_cap b⟩
theorem Nq.pgm (h : Nq N w W gq gs c1 gf c2 ns nf p ls lf) : Pgm (fun _ => True) W (.slice (some ⟨gs, 0, none⟩) ns c1) (.slice (some ⟨gf, 0, none⟩) nf c2) ⟨ls.map Prod.fst, lf.map Prod.fst⟩ := ⟨h.s.sys, h.f.rts⟩
theorem Nq.atS (h : Nq N w W gq gs c1 gf c2 ns nf p ls lf) {k : Nat} (hk : k < ns) : (∃ x, W.cell? ⟨gs, k * 8 + 4, none⟩ = some (.string x)) ∧ W.frozen? ⟨gs, k * 8 + 4, none⟩ = false := by
  have hl := h.l1
  have hk' : k < ls.length := by omega
  have a := h.s.row
  rw [hl] at a
  refine ⟨⟨_, (a.cellAt (k * 8 + 4) (show k * 8 + 4 < ns * 8 by omega)).trans (fl_at lvC_len ls k hk' 4 (by omega))⟩, ?_⟩
  obtain ⟨cs, hc⟩ := own_blk2 h.s.row (g := gs) rfl
  exact frozen_of_row W gs _ _ 60 hc
theorem Nq.atF (h : Nq N w W gq gs c1 gf c2 ns nf p ls lf) {k : Nat} (hk : k < nf) : (∃ x, W.cell? ⟨gf, k * 4, none⟩ = some (.string x)) ∧ W.frozen? ⟨gf, k * 4, none⟩ = false := by
  have hl := h.l2
  have hk' : k < lf.length := by omega
  have a := h.f.row
  rw [hl] at a
  refine ⟨⟨_, (a.cellAt (k * 4) (show k * 4 < nf * 4 by omega)).trans (fl_at rwC_len lf k hk' 0 (by omega))⟩, ?_⟩
  obtain ⟨cs, hc⟩ := own_blk2 h.f.row (g := gf) rfl
  exact frozen_of_row W gf _ _ 28 hc
theorem Nq.setS (h : Nq N w W gq gs c1 gf c2 ns nf p ls lf) {k : Nat} (hk : k < ls.length) (nm : ByteArray) : Nq N w (W.setCell ⟨gs, k * 8 + 4, none⟩ (.string nm)) gq gs c1 gf c2 ns nf p (ls.set k (nmL nm ls[k])) lf := by
  have hm := mv_set W gs (k * 8 + 4) (.string nm)
  have hge : N ≤ gs := (h.s.row.lt gs rfl).1
  obtain ⟨cs, hc⟩ := own_blk2 h.s.row (g := gs) rfl
  refine ⟨hm.at h.q (fun e => notPg h.s.row h.q (by decide) (by rw [e]; rfl)), h.s.name h.l1.symm hk nm, h.f.mv hm (fun j hj => hj.notb hc (by decide) (by decide)) ?_, h.b.setCell (by show _ ≤ gs; have := h.n; omega) _, h.n, by rw [List.length_set]; exact h.l1, h.l2, ?_⟩
  · rintro j e rfl
    exact own_ap2 h.f.row h.s.row (by decide) _ e rfl
  · rw [← h.er]
    unfold erP
    simp only [List.map_map]
    rw [map_set_same (erS ∘ Prod.fst) ls k (nmL nm ls[k]) hk rfl]
theorem Nq.setF (h : Nq N w W gq gs c1 gf c2 ns nf p ls lf) {k : Nat} (hk : k < lf.length) (nm : ByteArray) : Nq N w (W.setCell ⟨gf, k * 4, none⟩ (.string nm)) gq gs c1 gf c2 ns nf p ls (lf.set k (nmF nm lf[k])) := by
  have hm := mv_set W gf (k * 4) (.string nm)
  have hge : N ≤ gf := (h.f.row.lt gf rfl).1
  obtain ⟨cs, hc⟩ := own_blk2 h.f.row (g := gf) rfl
  refine ⟨hm.at h.q (fun e => notPg h.f.row h.q (by decide) (by rw [e]; rfl)), h.s.mv hm (fun j hj => hj.notb hc (by decide) (by decide)) ?_, h.f.name h.l2.symm hk nm, h.b.setCell (by show _ ≤ gf; have := h.n; omega) _, h.n, h.l1, by rw [List.length_set]; exact h.l2, ?_⟩
  · rintro j e rfl
    exact own_ap2 h.s.row h.f.row (by decide) _ e rfl
  · rw [← h.er]
    unfold erP
    simp only [List.map_map]
    rw [map_set_same (erR ∘ Prod.fst) lf k (nmF nm lf[k]) hk rfl]
theorem Nq.ok (h : Nq N w W gq gs c1 gf c2 ns nf p ls lf) (hp : mayOk p = true) (h1 : OkS ls ns) (h2 : OkF lf nf) : mayOk ⟨ls.map Prod.fst, lf.map Prod.fst⟩ = true := by
  refine ok_same h.er.symm hp (fun s hs => ?_) (fun r hr => ?_)
  · obtain ⟨x, hx, rfl⟩ := List.mem_map.1 hs
    obtain ⟨k, hk, rfl⟩ := List.getElem_of_mem hx
    exact h1 k hk (by have := h.l1; omega)
  · obtain ⟨x, hx, rfl⟩ := List.mem_map.1 hr
    obtain ⟨k, hk, rfl⟩ := List.getElem_of_mem hx
    exact h2 k hk (by have := h.l2; omega)
end
end Go.Proofs.YtklamaibinjcmaaDoor
