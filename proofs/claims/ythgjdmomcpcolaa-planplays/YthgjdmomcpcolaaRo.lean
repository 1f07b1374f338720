/-
  Lists of systems and of numbers that come in, opened.
-/
import Derived.Test.YthgjdmomcpcolaaSm
import Derived.Test.YthgjdmomcpcolaaRows
import Derived.ProofKit
import Derived.OpenShut
import Derived.ShutString
import Derived.ChangeOld
import Derived.SizedLaws
import Derived.JoinedCond
import Derived.Deep.CondSized
import Derived.Lib.SmallJoins
namespace Go.Proofs.Ythgjdmomcpcolaa
open Go.ChangeShapes Go.WideShapes Go.ChangeAt Go.RowKit
set_option maxRecDepth 100000
theorem own : ownKnob Try.prog.godebug = none := by kernel_rfl
theorem laidOut : laidOutB Try.prog = true := by kernel_rfl
section
variable {H : Type} {enc : TypeId × Value → H} {W : World}
theorem inI_wf {n : Int} (h : (Lit.int .i64 n).wf = true) : InI n := by
  have m1 : IntKind.i64.min = -9223372036854775808 := by rfl
  have m2 : IntKind.i64.max = 9223372036854775807 := by rfl
  have : -9223372036854775808 ≤ n ∧ n ≤ 9223372036854775807 := by
    simp [Lit.wf, m1, m2] at h
    omega
  exact this
theorem ints_cells {m : Nat} {cs : List Value} {y : DataW H × List MemPlace} (h : DataW.trod enc Try.prog W 0 (fun _ => true) true m 23 cs = some y) : ∃ v l, cs = [v] ∧ Rl W v l ∧ ∀ x ∈ l, InI x := by
  rcases DataW.trod_slice Try.underlying23 h with ⟨rfl, _⟩ | ⟨a, len, cap, elems, rest, n, _, rfl, hx, _, hl, hm, hlen, hel, _, _⟩
  · exact ⟨_, [], rfl, ⟨none, 0, rfl, Nat.le_refl _, Nat.zero_le _, fun h => absurd h (by simp)⟩, fun x hx => by cases hx⟩
  · have hc2 : Try.prog.cellsOf 3 = 1 := by kernel_rfl
    have spot0 : 0 < len → ∃ b off, a = ⟨b, off, none⟩ := fun hp => by
      have h1 := hel 0 hp
      rw [List.getElem?_eq_getElem (by omega), hc2, Option.bind_eq_some_iff] at h1
      obtain ⟨cs', hcs', ht'⟩ := h1
      obtain ⟨u, u1, -, u3⟩ := DataW.trod_int Try.underlying3 ht'
      obtain ⟨_, _, hcell⟩ := World.cells?_some hcs'
      have q0 := hcell 0 (by omega)
      rw [u1] at q0
      obtain ⟨b, off, spot⟩ := a
      have hspot : spot = none := by simpa [Addr.add] using World.cell?_spot q0
      subst hspot
      exact ⟨b, off, rfl⟩
    have one : ∀ i, i < len → ∃ (k : Int) (b off : Nat), a = ⟨b, off, none⟩ ∧ InI k ∧ W.cell? ⟨b, off + i, none⟩ = some (.int .i64 k) := fun i hi => by
      have h1 := hel i hi
      rw [List.getElem?_eq_getElem (by omega), hc2, Option.bind_eq_some_iff] at h1
      obtain ⟨cs', hcs', ht'⟩ := h1
      obtain ⟨u, u1, -, u3⟩ := DataW.trod_int Try.underlying3 ht'
      obtain ⟨_, _, hcell⟩ := World.cells?_some hcs'
      have q0 := hcell 0 (by omega)
      rw [u1] at q0
      obtain ⟨b, off, rfl⟩ := spot0 (by omega)
      rw [Go.WideShapes.add_plain, Go.WideShapes.add_plain, Nat.mul_one, Nat.add_zero] at q0
      exact ⟨u, b, off, rfl, inI_wf u3, q0⟩
    have all : ∀ k, k ≤ len → ∃ ks : List Int, ks.length = k ∧ ∀ i (hi : i < ks.length), ∃ g o, a = ⟨g, o, none⟩ ∧ InI ks[i] ∧ W.cell? ⟨g, o + i, none⟩ = some (.int .i64 ks[i]) := by
      intro k
      induction k with
      | zero => exact fun _ => ⟨[], rfl, fun j hj => absurd hj (by simp)⟩
      | succ k ih =>
        intro hk
        obtain ⟨l, e1, e3⟩ := ih (by omega)
        obtain ⟨x, b, off, ha, i1, c0⟩ := one k (by omega)
        refine ⟨l ++ [x], by simp [e1], fun j hj => ?_⟩
        by_cases c : j < l.length
        · rw [List.getElem_append_left c]
          exact e3 j c
        · have hje : j = l.length := by simp at hj; omega
          subst hje
          rw [List.getElem_append_right (Nat.le_refl _)]
          simp only [Nat.sub_self, List.getElem_cons_zero]
          exact ⟨b, off, ha, i1, by rw [e1]; exact c0⟩
    obtain ⟨l, e1, e3⟩ := all len (Nat.le_refl _)
    subst e1
    refine ⟨_, l, rfl, ⟨some a, cap, rfl, hl, hm, fun h0 => ?_⟩, fun x hx => ?_⟩
    · obtain ⟨g, o, rfl, -, -⟩ := e3 0 h0
      refine ⟨g, o, rfl, fun i hi => ?_⟩
      obtain ⟨g', o', e, -, c0⟩ := e3 i hi
      injection e with e4 e5
      subst e4 e5
      exact c0
    · obtain ⟨i, hi, rfl⟩ := List.getElem_of_mem hx
      obtain ⟨-, -, -, h1, -⟩ := e3 i hi
      exact h1
theorem sys_cells {m : Nat} {cs : List Value} {y : DataW H × List MemPlace} (h : DataW.trod enc Try.prog W 0 (fun _ => true) true m 60 cs = some y) : ∃ (s : Sy) (v1 v2 : Value), cs[0]? = some v1 ∧ cs[1]? = some v2 ∧ Rl W v1 s.1 ∧ Rl W v2 s.2 ∧ (∀ x ∈ s.1, InI x) ∧ ∀ x ∈ s.2, InI x := by
  have cC : Try.prog.cellsOf 23 = 1 := by kernel_rfl
  obtain ⟨y0, y1, n, -, -, f0, f1⟩ := trod_struct2 Try.underlying60 h
  obtain ⟨u, l1, u1, u2, u3⟩ := ints_cells f0
  obtain ⟨v, l2, v1, v2, v3⟩ := ints_cells f1
  refine ⟨(l1, l2), u, v, ?_, ?_, u2, v2, u3, v3⟩
  · have hd : (cs.drop 0).take (Try.prog.cellsOf 23) = [u] := u1
    rw [cC] at hd
    have h2 := congrArg (fun l => l[0]?) hd
    simpa [List.getElem?_take, List.getElem?_drop] using h2
  · have hd : (cs.drop 1).take (Try.prog.cellsOf 23) = [v] := v1
    rw [cC] at hd
    have h2 := congrArg (fun l => l[0]?) hd
    simpa [List.getElem?_take, List.getElem?_drop] using h2
theorem syss_cells {m : Nat} {cs : List Value} {y : DataW H × List MemPlace} (h : DataW.trod enc Try.prog W 0 (fun _ => true) true m 22 cs = some y) : ∃ v l, cs = [v] ∧ Sa W v l := by
  rcases DataW.trod_slice Try.underlying22 h with ⟨rfl, _⟩ | ⟨a, len, cap, elems, rest, n, _, rfl, hx, _, hl, hm, hlen, hel, _, _⟩
  · exact ⟨_, [], rfl, none, 0, [], rfl, Nat.le_refl _, Nat.zero_le _, rfl, fun h => absurd h (by simp), fun i h1 => absurd h1 (by simp)⟩
  · have hc2 : Try.prog.cellsOf 60 = 2 := by kernel_rfl
    have spot0 : 0 < len → ∃ b off, a = ⟨b, off, none⟩ := fun hp => by
      have h1 := hel 0 hp
      rw [List.getElem?_eq_getElem (by omega), hc2, Option.bind_eq_some_iff] at h1
      obtain ⟨cs', hcs', ht'⟩ := h1
      obtain ⟨s, v1, v2, k0, -⟩ := sys_cells ht'
      obtain ⟨_, _, hcell⟩ := World.cells?_some hcs'
      have q0 := (hcell 0 (by omega)).trans k0
      obtain ⟨b, off, spot⟩ := a
      have hspot : spot = none := by simpa [Addr.add] using World.cell?_spot q0
      subst hspot
      exact ⟨b, off, rfl⟩
    have one : ∀ i, i < len → ∃ (s : Sy) (v1 v2 : Value) (b off : Nat), a = ⟨b, off, none⟩ ∧ (W.cell? ⟨b, off + i * 2, none⟩ = some v1 ∧ W.cell? ⟨b, off + i * 2 + 1, none⟩ = some v2) ∧ Rl W v1 s.1 ∧ Rl W v2 s.2 ∧ (∀ x ∈ s.1, InI x) ∧ ∀ x ∈ s.2, InI x := fun i hi => by
      have h1 := hel i hi
      rw [List.getElem?_eq_getElem (by omega), hc2, Option.bind_eq_some_iff] at h1
      obtain ⟨cs', hcs', ht'⟩ := h1
      obtain ⟨s, v1, v2, k0, k1, r⟩ := sys_cells ht'
      obtain ⟨_, _, hcell⟩ := World.cells?_some hcs'
      have q0 := (hcell 0 (by omega)).trans k0
      have q1 := (hcell 1 (by omega)).trans k1
      obtain ⟨b, off, rfl⟩ := spot0 (by omega)
      rw [Go.WideShapes.add_plain, Go.WideShapes.add_plain] at q0 q1
      exact ⟨s, v1, v2, b, off, rfl, ⟨q0, q1⟩, r⟩
    have all : ∀ k, k ≤ len → ∃ (ks : List Sy) (vs : List (Value × Value)), ks.length = k ∧ vs.length = k ∧ ∀ i (hi : i < ks.length) (hv : i < vs.length), ∃ g o, a = ⟨g, o, none⟩ ∧ (W.cell? ⟨g, o + i * 2, none⟩ = some vs[i].1 ∧ W.cell? ⟨g, o + i * 2 + 1, none⟩ = some vs[i].2) ∧ Rl W vs[i].1 ks[i].1 ∧ Rl W vs[i].2 ks[i].2 ∧ (∀ x ∈ ks[i].1, InI x) ∧ ∀ x ∈ ks[i].2, InI x := by
      intro k
      induction k with
      | zero => exact fun _ => ⟨[], [], rfl, rfl, fun j hj => absurd hj (by simp)⟩
      | succ k ih =>
        intro hk
        obtain ⟨l, vs, e1, e2, e3⟩ := ih (by omega)
        obtain ⟨s, v1, v2, b, off, ha, c0, r⟩ := one k (by omega)
        refine ⟨l ++ [s], vs ++ [(v1, v2)], by simp [e1], by simp [e2], fun j hj hv => ?_⟩
        by_cases c : j < l.length
        · rw [List.getElem_append_left c, List.getElem_append_left (by omega)]
          exact e3 j c (by omega)
        · have hje : j = k := by simp at hj; omega
          subst hje
          have f1 : (l ++ [s])[j] = s := by
            rw [List.getElem_append_right (by omega)]
            simp [e1]
          have f2 : (vs ++ [(v1, v2)])[j] = (v1, v2) := by
            rw [List.getElem_append_right (by omega)]
            simp [e2]
          rw [f1, f2]
          exact ⟨b, off, ha, c0, r⟩
    obtain ⟨l, vs, e1, e2, e3⟩ := all len (Nat.le_refl _)
    subst e1
    refine ⟨_, l, rfl, some a, cap, vs, rfl, hl, hm, e2, fun h0 => ?_, fun i h1 h2 => ?_⟩
    · obtain ⟨g, o, rfl, -, -⟩ := e3 0 h0 (by omega)
      refine ⟨g, o, rfl, fun i hi => ?_⟩
      obtain ⟨g', o', e, c0, -⟩ := e3 i (by omega) hi
      injection e with e4 e5
      subst e4 e5
      exact c0
    · obtain ⟨-, -, -, -, r⟩ := e3 i h2 h1
      exact r
theorem ints_arg {a0 : Option Addr} {len0 cap0 : Nat} {d0 : DataW H} {p0 : List MemPlace} (h0 : DataW.Trod enc Try.prog W 0 (fun _ => true) true 23 (.slice a0 len0 cap0) d0 p0) : ∃ l : List Int, Rl W (.slice a0 len0 cap0) l ∧ ∀ x ∈ l, InI x := by
  obtain ⟨fuel, hf⟩ := h0
  obtain ⟨v, l, e, h1, h2⟩ := ints_cells hf
  simp only [Value.cells, List.cons.injEq, and_true] at e
  subst e
  exact ⟨l, h1, h2⟩
theorem syss_arg {a0 : Option Addr} {len0 cap0 : Nat} {d0 : DataW H} {p0 : List MemPlace} (h0 : DataW.Trod enc Try.prog W 0 (fun _ => true) true 22 (.slice a0 len0 cap0) d0 p0) : ∃ l : List Sy, Sa W (.slice a0 len0 cap0) l := by
  obtain ⟨fuel, hf⟩ := h0
  obtain ⟨v, l, e, h1⟩ := syss_cells hf
  simp only [Value.cells, List.cons.injEq, and_true] at e
  subst e
  exact ⟨l, h1⟩
end
end Go.Proofs.Ythgjdmomcpcolaa
