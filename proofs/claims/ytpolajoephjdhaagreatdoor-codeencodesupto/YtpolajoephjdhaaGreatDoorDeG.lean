/-
  Programs that were read: their lists, all apart.
-/
import Derived.Test.YtpolajoephjdhaaGreatDoorDeN
namespace Go.Proofs.YtpolajoephjdhaaGreatDoor
open Go.RowKit
set_option maxRecDepth 100000
/-- The five lists of a system. -/
structure Sv where
  v1 : Value
  v2 : Value
  v3 : Value
  v4 : Value
  vc : Value
def svC (p : Sy × Sv) : List Value := [p.2.v1, p.2.v2, p.2.v3, p.2.v4, .string p.1.run.name, .int .i64 p.1.run.pa, .int .i64 p.1.run.lo, p.2.vc]
def sysC (l : List (Sy × Sv)) : List Value := l.flatMap svC
def rvC (p : Rt × Value) : List Value := [.string p.1.name, .int .i64 p.1.pa, .int .i64 p.1.lo, p.2]
def rtsC (l : List (Rt × Value)) : List Value := l.flatMap rvC
def intsOf (l : List (Sy × Sv)) : List Value := l.flatMap fun p => [p.2.v1, p.2.v2, p.2.v3, p.2.v4]
def codesS (l : List (Sy × Sv)) : List Value := l.map fun p => p.2.vc
def codesR (l : List (Rt × Value)) : List Value := l.map fun p => p.2
/-- Systems' lists: each of the owner's own, all apart. -/
def SysOwn (N : Nat) (w : World) (l : List (Sy × Sv)) : Prop := (∀ p ∈ l, SyOwn N w p.1 p.2.v1 p.2.v2 p.2.v3 p.2.v4 p.2.vc) ∧ (intsOf l).Pairwise Ap ∧ (codesS l).Pairwise Ap
def RtsOwn (N : Nat) (w : World) (l : List (Rt × Value)) : Prop := (∀ p ∈ l, w.ownsRow N 56 2 p.2 p.1.code.length (insC p.1.code)) ∧ (codesR l).Pairwise Ap
theorem SysOwn.mv {N : Nat} {w w' : World} {l : List (Sy × Sv)} {S : Nat → Prop} (h : SysOwn N w l) (hm : Mv w w' S) (hs : ∀ j, N ≤ j → j < w.heap.size → (∀ p ∈ l, ∀ v ∈ [p.2.v1, p.2.v2, p.2.v3, p.2.v4, p.2.vc], v.ownBlock = some j → ¬ S j)) : SysOwn N w' l := by
  obtain ⟨h1, h2⟩ := h
  refine ⟨fun p hp => (h1 p hp).mv hm (fun v hv j hj => ?_), h2⟩
  have := (h1 p hp).block v hv j hj
  exact hs j this.1 this.2 p hp v hv hj
theorem SysOwn.lower {N M : Nat} {w : World} {l : List (Sy × Sv)} (h : SysOwn N w l) (hM : M ≤ N) : SysOwn M w l := ⟨fun p hp => (h.1 p hp).lower hM, h.2⟩
theorem SysOwn.snoc {N : Nat} {w w' : World} {l : List (Sy × Sv)} {p : Sy × Sv} (h : SysOwn N w l) (h' : SysOwn N w' l) (hp : SyOwn w.heap.size w' p.1 p.2.v1 p.2.v2 p.2.v3 p.2.v4 p.2.vc) (hN : N ≤ w.heap.size) : SysOwn N w' (l ++ [p]) := by
  have old : ∀ q ∈ l, ∀ v ∈ [q.2.v1, q.2.v2, q.2.v3, q.2.v4, q.2.vc], ∀ u ∈ [p.2.v1, p.2.v2, p.2.v3, p.2.v4, p.2.vc], Ap v u := fun q hq v hv u hu g e1 e2 => by
    have a := (h.1 q hq).block v hv g e1
    have b := hp.block u hu g e2
    omega
  refine ⟨fun q hq => ?_, ?_, ?_⟩
  · rw [List.mem_append, List.mem_singleton] at hq
    rcases hq with hq | rfl
    · exact h'.1 q hq
    · exact hp.lower hN
  · unfold intsOf
    rw [List.flatMap_append, List.pairwise_append]
    refine ⟨h.2.1, ?_, ?_⟩
    · obtain ⟨-, a, b, c, d, e, f⟩ := hp
      simp only [List.flatMap_cons, List.flatMap_nil, List.append_nil, List.pairwise_cons, List.mem_cons, List.not_mem_nil, or_false, List.Pairwise.nil, and_true]
      refine ⟨?_, ?_, ?_, fun _ h => h.elim⟩
      · rintro u (rfl | rfl | rfl)
        · exact a
        · exact b
        · exact c
      · rintro u (rfl | rfl)
        · exact d
        · exact e
      · rintro u rfl
        exact f
    · intro v hv u hu
      rw [List.mem_flatMap] at hv
      obtain ⟨q, hq, hv⟩ := hv
      have hu' : u ∈ [p.2.v1, p.2.v2, p.2.v3, p.2.v4] := by simpa using hu
      refine old q hq v ?_ u ?_
      · exact List.mem_append_left [q.2.vc] hv
      · exact List.mem_append_left [p.2.vc] hu'
  · unfold codesS
    rw [List.map_append, List.pairwise_append]
    refine ⟨h.2.2, by simp, ?_⟩
    intro v hv u hu
    rw [List.mem_map] at hv
    obtain ⟨q, hq, rfl⟩ := hv
    have hu' : u = p.2.vc := by simpa using hu
    subst hu'
    exact old q hq _ (by simp) _ (by simp)
theorem RtsOwn.mv {N : Nat} {w w' : World} {l : List (Rt × Value)} {S : Nat → Prop} (h : RtsOwn N w l) (hm : Mv w w' S) (hs : ∀ p ∈ l, ∀ j, N ≤ j → p.2.ownBlock = some j → ¬ S j) : RtsOwn N w' l :=
  ⟨fun p hp => hm.own (h.1 p hp) (fun j hj => hs p hp j ((h.1 p hp).lt j hj).1 hj), h.2⟩
theorem RtsOwn.snoc {N : Nat} {w w' : World} {l : List (Rt × Value)} {p : Rt × Value} (h : RtsOwn N w l) (h' : RtsOwn N w' l) (hp : w'.ownsRow w.heap.size 56 2 p.2 p.1.code.length (insC p.1.code)) (hN : N ≤ w.heap.size) : RtsOwn N w' (l ++ [p]) := by
  refine ⟨fun q hq => ?_, ?_⟩
  · rw [List.mem_append, List.mem_singleton] at hq
    rcases hq with hq | rfl
    · exact h'.1 q hq
    · exact own_lower hp hN
  · unfold codesR
    rw [List.map_append, List.pairwise_append]
    refine ⟨h.2, by simp, ?_⟩
    intro v hv u hu
    rw [List.mem_map] at hv
    obtain ⟨q, hq, rfl⟩ := hv
    have hu' : u = p.2 := by simpa using hu
    subst hu'
    intro g e1 e2
    have a := (h.1 q hq).lt g e1
    have b := hp.lt g e2
    omega
/-- Rows of two types lie in two blocks. -/
theorem own_types {w : World} {B B' e e' s s' n n' : Nat} {u v : Value} {xs ys : List Value} (h : w.ownsRow B e s u n xs) (h' : w.ownsRow B' e' s' v n' ys) (hne : e ≠ e') : ∀ j, u.ownBlock = some j → v.ownBlock = some j → False := fun j h1 h2 => by
  obtain ⟨-, ⟨rfl, -⟩ | ⟨g, cap, cur, rfl, -, hg, -⟩⟩ := h
  · simp [Value.ownBlock] at h1
  · have e1 : g = j := by simpa [Value.ownBlock] using h1
    subst e1
    exact own_not h' hg hne h2
theorem sysC_snoc (l : List (Sy × Sv)) (p : Sy × Sv) : sysC (l ++ [p]) = sysC l ++ svC p := by simp [sysC]
theorem rtsC_snoc (l : List (Rt × Value)) (p : Rt × Value) : rtsC (l ++ [p]) = rtsC l ++ rvC p := by simp [rtsC]
theorem infoS : (Tryz.prog.info? 47).map (fun i => (i.zero, i.size, i.bytes)) = some (some (.agg #[.slice none 0 0, .slice none 0 0, .slice none 0 0, .slice none 0 0, .string ByteArray.empty, .int .i64 0, .int .i64 0, .slice none 0 0]), 8, 152) := by kernel_rfl
theorem infoR : (Tryz.prog.info? 45).map (fun i => (i.zero, i.size, i.bytes)) = some (some (.agg #[.string ByteArray.empty, .int .i64 0, .int .i64 0, .slice none 0 0]), 4, 56) := by kernel_rfl
def sysG (b : List UInt8) : Nat → Rs → Rs
  | 0, s => s
  | n + 1, s => sysG b n (sysR b s)
def sysL (b : List UInt8) : Nat → Rs → List Sy
  | 0, _ => []
  | n + 1, s => sysV b s :: sysL b n (sysR b s)
def rtsG (b : List UInt8) : Nat → Rs → Rs
  | 0, s => s
  | n + 1, s => rtsG b n (rtnR b s)
def rtsL (b : List UInt8) : Nat → Rs → List Rt
  | 0, _ => []
  | n + 1, s => rtnV b s :: rtsL b n (rtnR b s)
def pgS1 (b : List UInt8) (s : Rs) : Rs := numR b 0 16 s
def pgN1 (b : List UInt8) (s : Rs) : Nat := numV b 0 16 s
def pgS2 (b : List UInt8) (s : Rs) : Rs := sysG b (pgN1 b s) (pgS1 b s)
def pgS3 (b : List UInt8) (s : Rs) : Rs := numR b 0 16 (pgS2 b s)
def pgN2 (b : List UInt8) (s : Rs) : Nat := numV b 0 16 (pgS2 b s)
def pgR (b : List UInt8) (s : Rs) : Rs := rtsG b (pgN2 b s) (pgS3 b s)
def pgV (b : List UInt8) (s : Rs) : Pg := ⟨sysL b (pgN1 b s) (pgS1 b s), rtsL b (pgN2 b s) (pgS3 b s)⟩
/-- A program that was read. -/
def PgOwn (N : Nat) (w : World) (p : Pg) (vs vf : Value) : Prop := ∃ (ls : List (Sy × Sv)) (lf : List (Rt × Value)), p.sys = ls.map Prod.fst ∧ p.fns = lf.map Prod.fst ∧ w.ownsRow N 47 8 vs ls.length (sysC ls) ∧ w.ownsRow N 45 4 vf lf.length (rtsC lf) ∧ SysOwn N w ls ∧ RtsOwn N w lf ∧ ∀ p ∈ ls, ∀ q ∈ lf, Ap p.2.vc q.2
section
variable {W W' : World} {B k : Nat} {b : List UInt8} {s : Rs}
theorem undPg1 : (Tryz.prog.underlying 27).map (fun d => match d with | .struct _ | .array _ _ => true | _ => false) = some true := by kernel_rfl
theorem res_pg1 {fn : Func} {p : Tmp} (hr : fn.results = #[.cell p 27]) {tmps : Array Value} {W : World} {g : Nat} {x y : Value} (hp : tmps.getD p undef = .pointer (some ⟨g, 0, none⟩)) (hg : W.heap[g]? = some (.cells #[x, y] 27 (0, 0))) : (results fn tmps).run Tryz.prog W = .ok (.agg #[x, y]) W := by
  obtain ⟨d, hu, hd⟩ := Option.map_eq_some_iff.1 undPg1
  exact results_cell_row hr tmps W g 27 _ (0, 0) d hp hg hu (by cases d <;> first | rfl | cases hd) (by kernel_rfl)
theorem row2 {w : World} {B T : Nat} {x y : Value} (h : w.heap[B]? = some (.cells #[x, y] T (0, 0))) : w.cell? ⟨B, 0, none⟩ = some x ∧ w.cell? ⟨B, 1, none⟩ = some y := by
  refine ⟨?_, ?_⟩ <;> rw [cell_of_row w _ _ _ T (0, 0) h] <;> rfl
/-- While a program is read. -/
def Lp (W w : World) (B k : Nat) (b : List UInt8) (s : Rs) (r2 r3 : Nat) (x y : Value) : Prop :=
  w.heap[r2]? = some (.cells #[.slice none 0 0, .slice none 0 0] 27 (0, 0)) ∧ w.heap[r3]? = some (.cells #[x, y] 27 (0, 0)) ∧ Rdr w B k b s ∧ Mv W w (fun j => j = k) ∧ k < r2 ∧ r2 < r3 ∧ W.heap.size ≤ r2 ∧ Tb w ∧ 0 < B
theorem Lp.call {w w' : World} {s' : Rs} {r2 r3 : Nat} {x y : Value} (h : Lp W w B k b s r2 r3 x y) (hr : Rdr w' B k b s') (hm : Mv w w' (fun j => j = k)) : Lp W w' B k b s' r2 r3 x y := by
  obtain ⟨h1, h2, h3, h4, h5, h6, h7, h8, h9⟩ := h
  have := h3.1
  exact ⟨hm.at h1 (by omega), hm.at h2 (by omega), hr, h4.trans hm (fun _ _ e => e), h5, h6, h7, h8.mv hm (by omega), h9⟩
theorem Lp.later {w w' : World} {r2 r3 : Nat} {x y : Value} (h : Lp W w B k b s r2 r3 x y) (hb : Below w.heap.size w w') : Lp W w' B k b s r2 r3 x y := h.call (h.2.2.1.later hb) (Mv.of_below hb _)
theorem Lp.set {w : World} {r2 r3 i : Nat} {x y x' y' v : Value} (h : Lp W w B k b s r2 r3 x y) (he : (#[x, y] : Array Value).setIfInBounds i v = #[x', y']) : Lp W (w.setCell ⟨r3, i, none⟩ v) B k b s r2 r3 x' y' := by
  obtain ⟨h1, h2, h3, h4, h5, h6, h7, h8, h9⟩ := h
  have hk := h3.1
  have m := (Mv.refl w (fun j => j = r3)).set (g := r3) rfl i v
  have e := heap_setCell_same w r3 i _ 27 v h2
  rw [he] at e
  exact ⟨m.at h1 (by omega), e, h3.mv m (fun j e => by omega), h4.trans m (fun j hj e => by omega), h5, h6, h7, h8.mv m (by omega), h9⟩
theorem Lp.grow {w w' : World} {r2 r3 : Nat} {x y : Value} {S : Nat → Prop} (h : Lp W w B k b s r2 r3 x y) (hm : Mv w w' S) (hs : ∀ j, S j → r3 + 1 ≤ j) : Lp W w' B k b s r2 r3 x y := by
  obtain ⟨h1, h2, h3, h4, h5, h6, h7, h8, h9⟩ := h
  have hk := h3.1
  exact ⟨hm.at h1 (fun e => by have := hs _ e; omega), hm.at h2 (fun e => by have := hs _ e; omega), h3.mv hm (fun j e => by have := hs _ e; omega), h4.trans hm (fun j hj e => by have := hs _ e; omega), h5, h6, h7, h8.mv hm (fun e => by have := hs _ e; omega), h9⟩
end
end Go.Proofs.YtpolajoephjdhaaGreatDoor
