/-
  Verify: the arguments of its laws, opened.
-/
import Derived.Test.YtfkhhplcogedmaaGreatDoorMgE
import Derived.Test.YtfkhhplcogedmaaGreatDoorMgJ
import Derived.Test.YtfkhhplcogedmaaGreatDoorRows
import Derived.ProofKit
import Derived.OpenShut
import Derived.ShutString
import Derived.ChangeOld
import Derived.SizedLaws
import Derived.JoinedCond
import Derived.Deep.CondSized
import Derived.Lib.SmallJoins
import Derived.Stop.Joined
namespace Go.Proofs.YtfkhhplcogedmaaGreatDoor
open Go.ChangeShapes Go.WideShapes Go.ChangeAt Go.RowKit
set_option maxRecDepth 100000
def NilOr (v : Value) : Prop := ∀ n c, v = .slice none n c → n = 0 ∧ c = 0
section
variable {H : Type} {enc : TypeId × Value → H} {W : World}
theorem i6_wf {n : Int} (h : (Lit.int .i64 n).wf = true) : I6 n := by
  have m1 : IntKind.i64.min = -9223372036854775808 := by rfl
  have m2 : IntKind.i64.max = 9223372036854775807 := by rfl
  have : -9223372036854775808 ≤ n ∧ n ≤ 9223372036854775807 := by
    simp [Lit.wf, m1, m2] at h
    omega
  exact this
theorem ins_cells {m : Nat} {cs : List Value} {y : DataW H × List MemPlace} (h : DataW.trod enc Tryz.prog W 0 (fun _ => true) true m 28 cs = some y) : ∃ i : Ins, I6 i.op ∧ I6 i.a ∧ cs[0]? = some (.int .i64 i.op) ∧ cs[1]? = some (.int .i64 i.a) := by
  have cI : Tryz.prog.cellsOf 3 = 1 := by kernel_rfl
  have cJ : Tryz.prog.cellsOf 2 = 1 := by kernel_rfl
  obtain ⟨y0, y1, n, -, -, f0, f1⟩ := trod_struct2 Tryz.underlying28 h
  obtain ⟨u, u1, -, u3⟩ := DataW.trod_int Tryz.underlying3 f0
  obtain ⟨v, v1, -, v3⟩ := DataW.trod_int Tryz.underlying2 f1
  refine ⟨⟨u, v⟩, i6_wf u3, i6_wf v3, ?_, ?_⟩
  · have hd : (cs.drop 0).take (Tryz.prog.cellsOf 3) = [.int .i64 u] := u1
    rw [cI] at hd
    have h2 := congrArg (fun l => l[0]?) hd
    simpa [List.getElem?_take, List.getElem?_drop] using h2
  · have hd : (cs.drop 1).take (Tryz.prog.cellsOf 2) = [.int .i64 v] := v1
    rw [cJ] at hd
    have h2 := congrArg (fun l => l[0]?) hd
    simpa [List.getElem?_take, List.getElem?_drop] using h2
def Qw (W : World) (j : Nat) : Prop := j < W.heap.size
theorem code_cells {m : Nat} {cs : List Value} {y : DataW H × List MemPlace} (h : DataW.trod enc Tryz.prog W 0 (fun _ => true) true m 33 cs = some y) : ∃ v l, cs = [v] ∧ Il (Qw W) W v l ∧ NilOr v := by
  rcases DataW.trod_slice Tryz.underlying33 h with ⟨rfl, _⟩ | ⟨a, len, cap, elems, rest, n, _, rfl, hx, _, hl, hm, hlen, hel, _, _⟩
  · exact ⟨_, [], rfl, ⟨none, 0, rfl, Nat.le_refl _, Nat.zero_le _, fun h => absurd h (by simp)⟩, fun n c e => by injection e with _ e1 e2; exact ⟨e1.symm, e2.symm⟩⟩
  · have hc2 : Tryz.prog.cellsOf 28 = 2 := by kernel_rfl
    have spot0 : 0 < len → ∃ b off, a = ⟨b, off, none⟩ := fun hp => by
      have h1 := hel 0 hp
      rw [List.getElem?_eq_getElem (by omega), hc2, Option.bind_eq_some_iff] at h1
      obtain ⟨cs', hcs', ht'⟩ := h1
      obtain ⟨i, -, -, k0, -⟩ := ins_cells ht'
      obtain ⟨_, _, hcell⟩ := World.cells?_some hcs'
      have q0 := (hcell 0 (by omega)).trans k0
      obtain ⟨b, off, spot⟩ := a
      have hspot : spot = none := by simpa [Addr.add] using World.cell?_spot q0
      subst hspot
      exact ⟨b, off, rfl⟩
    have one : ∀ i, i < len → ∃ (k : Ins) (b off : Nat), a = ⟨b, off, none⟩ ∧ I6 k.op ∧ I6 k.a ∧ W.cell? ⟨b, off + i * 2, none⟩ = some (.int .i64 k.op) ∧ W.cell? ⟨b, off + i * 2 + 1, none⟩ = some (.int .i64 k.a) := fun i hi => by
      have h1 := hel i hi
      rw [List.getElem?_eq_getElem (by omega), hc2, Option.bind_eq_some_iff] at h1
      obtain ⟨cs', hcs', ht'⟩ := h1
      obtain ⟨x, i1, i2, k0, k1⟩ := ins_cells ht'
      obtain ⟨_, _, hcell⟩ := World.cells?_some hcs'
      have q0 := (hcell 0 (by omega)).trans k0
      have q1 := (hcell 1 (by omega)).trans k1
      obtain ⟨b, off, rfl⟩ := spot0 (by omega)
      rw [Go.WideShapes.add_plain, Go.WideShapes.add_plain] at q0 q1
      exact ⟨x, b, off, rfl, i1, i2, q0, q1⟩
    have all : ∀ k, k ≤ len → ∃ ks : List Ins, ks.length = k ∧ ∀ i (hi : i < ks.length), ∃ g o, a = ⟨g, o, none⟩ ∧ I6 ks[i].op ∧ I6 ks[i].a ∧ W.cell? ⟨g, o + i * 2, none⟩ = some (.int .i64 ks[i].op) ∧ W.cell? ⟨g, o + i * 2 + 1, none⟩ = some (.int .i64 ks[i].a) := by
      intro k
      induction k with
      | zero => exact fun _ => ⟨[], rfl, fun j hj => absurd hj (by simp)⟩
      | succ k ih =>
        intro hk
        obtain ⟨l, e1, e3⟩ := ih (by omega)
        obtain ⟨x, b, off, ha, i1, i2, c0, c1⟩ := one k (by omega)
        refine ⟨l ++ [x], by simp [e1], fun j hj => ?_⟩
        by_cases c : j < l.length
        · rw [List.getElem_append_left c]
          exact e3 j c
        · have hje : j = l.length := by simp at hj; omega
          subst hje
          rw [List.getElem_append_right (Nat.le_refl _)]
          simp only [Nat.sub_self, List.getElem_cons_zero]
          exact ⟨b, off, ha, i1, i2, by rw [e1]; exact c0, by rw [e1]; exact c1⟩
    obtain ⟨l, e1, e3⟩ := all len (Nat.le_refl _)
    subst e1
    refine ⟨_, l, rfl, ⟨some a, cap, rfl, hl, hm, fun h0 => ?_⟩, fun n c e => by injection e with e0; cases e0⟩
    obtain ⟨b, off, rfl⟩ := spot0 h0
    refine ⟨b, off, rfl, ?_, fun i hi => ?_⟩
    · obtain ⟨g, o, e, -, -, c0, -⟩ := e3 0 h0
      injection e with e4
      subst e4
      exact World.block_lt_of_cell? W _ c0
    · obtain ⟨g, o, e, i1, i2, c0, c1⟩ := e3 i hi
      injection e with e4 e5
      subst e4 e5
      exact ⟨i1, i2, c0, c1⟩
theorem rt_cells {m : Nat} {cs : List Value} {y : DataW H × List MemPlace} (h : DataW.trod enc Tryz.prog W 0 (fun _ => true) true m 35 cs = some y) : ∃ (r : Rt) (vc : Value), I6 r.pa ∧ I6 r.lo ∧ cs[0]? = some (.string r.name) ∧ cs[1]? = some (.int .i64 r.pa) ∧ cs[2]? = some (.int .i64 r.lo) ∧ cs[3]? = some vc ∧ Il (Qw W) W vc r.code ∧ NilOr vc ∧ r.name.size ≤ maxLen := by
  have cS : Tryz.prog.cellsOf 9 = 1 := by kernel_rfl
  have cI : Tryz.prog.cellsOf 3 = 1 := by kernel_rfl
  have cC : Tryz.prog.cellsOf 33 = 1 := by kernel_rfl
  obtain ⟨y0, y1, y2, y3, n, -, -, f0, f1, f2, f3⟩ := Joins.trod_struct4 Tryz.underlying35 h
  obtain ⟨s, s1, -, s3⟩ := DataW.trod_string Tryz.underlying9 f0
  obtain ⟨u, u1, -, u3⟩ := DataW.trod_int Tryz.underlying3 f1
  obtain ⟨v, v1, -, v3⟩ := DataW.trod_int Tryz.underlying3 f2
  obtain ⟨vc, l, c1, c2, c3⟩ := code_cells f3
  refine ⟨⟨s, u, v, l⟩, vc, i6_wf u3, i6_wf v3, ?_, ?_, ?_, ?_, c2, c3, s3⟩
  · have hd : (cs.drop 0).take (Tryz.prog.cellsOf 9) = [.string s] := s1
    rw [cS] at hd
    have h2 := congrArg (fun l => l[0]?) hd
    simpa [List.getElem?_take, List.getElem?_drop] using h2
  · have hd : (cs.drop 1).take (Tryz.prog.cellsOf 3) = [.int .i64 u] := u1
    rw [cI] at hd
    have h2 := congrArg (fun l => l[0]?) hd
    simpa [List.getElem?_take, List.getElem?_drop] using h2
  · have hd : (cs.drop 2).take (Tryz.prog.cellsOf 3) = [.int .i64 v] := v1
    rw [cI] at hd
    have h2 := congrArg (fun l => l[0]?) hd
    simpa [List.getElem?_take, List.getElem?_drop] using h2
  · have hd : (cs.drop 3).take (Tryz.prog.cellsOf 33) = [vc] := c1
    rw [cC] at hd
    have h2 := congrArg (fun l => l[0]?) hd
    simpa [List.getElem?_take, List.getElem?_drop] using h2
theorem rts_cells {m : Nat} {cs : List Value} {y : DataW H × List MemPlace} (h : DataW.trod enc Tryz.prog W 0 (fun _ => true) true m 23 cs = some y) (hw : ∀ n ∈ y.1.weights Tryz.prog 23, n ≤ reachBytes) : ∃ v l, cs = [v] ∧ Rts (Qw W) W v l ∧ NilOr v ∧ l.length * 56 ≤ 140737488351232 := by
  rcases DataW.trod_slice Tryz.underlying23 h with ⟨rfl, _⟩ | ⟨a, len, cap, elems, rest, n, _, rfl, hx, _, hl, hm, hlen, hel, _, _⟩
  · exact ⟨_, [], rfl, ⟨none, 0, rfl, Nat.le_refl _, Nat.zero_le _, fun h => absurd h (by simp)⟩, fun n c e => by injection e with _ e1 e2; exact ⟨e1.symm, e2.symm⟩, by simp⟩
  · have hc2 : Tryz.prog.cellsOf 35 = 4 := by kernel_rfl
    have hsz : len * 56 ≤ 140737488351232 := by
      have hb : Tryz.prog.bytesOf 35 = 56 := by kernel_rfl
      have := hw ((elems.length + rest.length) * 56) (by
        rw [hx]
        unfold DataW.weights
        rw [Tryz.underlying23]
        dsimp only
        rw [hb, List.length_map, List.length_map]
        exact List.mem_cons_self)
      unfold reachBytes at this
      omega
    have spot0 : 0 < len → ∃ b off, a = ⟨b, off, none⟩ := fun hp => by
      have h1 := hel 0 hp
      rw [List.getElem?_eq_getElem (by omega), hc2, Option.bind_eq_some_iff] at h1
      obtain ⟨cs', hcs', ht'⟩ := h1
      obtain ⟨i, vc, -, -, k0, -⟩ := rt_cells ht'
      obtain ⟨_, _, hcell⟩ := World.cells?_some hcs'
      have q0 := (hcell 0 (by omega)).trans k0
      obtain ⟨b, off, spot⟩ := a
      have hspot : spot = none := by simpa [Addr.add] using World.cell?_spot q0
      subst hspot
      exact ⟨b, off, rfl⟩
    have one : ∀ i, i < len → ∃ (k : Rt) (b off : Nat), a = ⟨b, off, none⟩ ∧ I6 k.pa ∧ I6 k.lo ∧ ∃ vc, W.cell? ⟨b, off + i * 4, none⟩ = some (.string k.name) ∧ W.cell? ⟨b, off + i * 4 + 1, none⟩ = some (.int .i64 k.pa) ∧ W.cell? ⟨b, off + i * 4 + 2, none⟩ = some (.int .i64 k.lo) ∧ W.cell? ⟨b, off + i * 4 + 3, none⟩ = some vc ∧ Il (Qw W) W vc k.code := fun i hi => by
      have h1 := hel i hi
      rw [List.getElem?_eq_getElem (by omega), hc2, Option.bind_eq_some_iff] at h1
      obtain ⟨cs', hcs', ht'⟩ := h1
      obtain ⟨x, vc, i1, i2, k0, k1, k2, k3, hil, -⟩ := rt_cells ht'
      obtain ⟨_, _, hcell⟩ := World.cells?_some hcs'
      have q0 := (hcell 0 (by omega)).trans k0
      have q1 := (hcell 1 (by omega)).trans k1
      have q2 := (hcell 2 (by omega)).trans k2
      have q3 := (hcell 3 (by omega)).trans k3
      obtain ⟨b, off, rfl⟩ := spot0 (by omega)
      rw [Go.WideShapes.add_plain, Go.WideShapes.add_plain] at q0 q1 q2 q3
      exact ⟨x, b, off, rfl, i1, i2, vc, q0, q1, q2, q3, hil⟩
    have all : ∀ k, k ≤ len → ∃ ks : List Rt, ks.length = k ∧ ∀ i (hi : i < ks.length), ∃ g o, a = ⟨g, o, none⟩ ∧ I6 ks[i].pa ∧ I6 ks[i].lo ∧ ∃ vc, W.cell? ⟨g, o + i * 4, none⟩ = some (.string ks[i].name) ∧ W.cell? ⟨g, o + i * 4 + 1, none⟩ = some (.int .i64 ks[i].pa) ∧ W.cell? ⟨g, o + i * 4 + 2, none⟩ = some (.int .i64 ks[i].lo) ∧ W.cell? ⟨g, o + i * 4 + 3, none⟩ = some vc ∧ Il (Qw W) W vc ks[i].code := by
      intro k
      induction k with
      | zero => exact fun _ => ⟨[], rfl, fun j hj => absurd hj (by simp)⟩
      | succ k ih =>
        intro hk
        obtain ⟨l, e1, e3⟩ := ih (by omega)
        obtain ⟨x, b, off, ha, i1, i2, vc, c0, c1, c2, c3, hil⟩ := one k (by omega)
        refine ⟨l ++ [x], by simp [e1], fun j hj => ?_⟩
        by_cases c : j < l.length
        · rw [List.getElem_append_left c]
          exact e3 j c
        · have hje : j = l.length := by simp at hj; omega
          subst hje
          rw [List.getElem_append_right (Nat.le_refl _)]
          simp only [Nat.sub_self, List.getElem_cons_zero]
          exact ⟨b, off, ha, i1, i2, vc, by rw [e1]; exact c0, by rw [e1]; exact c1, by rw [e1]; exact c2, by rw [e1]; exact c3, hil⟩
    obtain ⟨l, e1, e3⟩ := all len (Nat.le_refl _)
    subst e1
    refine ⟨_, l, rfl, ⟨some a, cap, rfl, hl, hm, fun h0 => ?_⟩, (fun n c e => by injection e with e0; cases e0), hsz⟩
    obtain ⟨b, off, rfl⟩ := spot0 h0
    refine ⟨b, off, rfl, ?_, fun i hi => ?_⟩
    · obtain ⟨g, o, e, -, -, vc, c0, -⟩ := e3 0 h0
      injection e with e4
      subst e4
      exact World.block_lt_of_cell? W _ c0
    · obtain ⟨g, o, e, i1, i2, vc, c0⟩ := e3 i hi
      injection e with e4 e5
      subst e4 e5
      exact ⟨i1, i2, vc, c0⟩
theorem trod_struct5 {P : Program} {w : World} {base : Nat} {spare : TypeId → Bool} {held : Bool} {t : TypeId} {f0 f1 f2 f3 f4 : Field} {fuel : Nat} {cs : List Value} {x : DataW H × List MemPlace} (ht : P.underlying t = some (.struct #[f0, f1, f2, f3, f4])) (h : DataW.trod enc P w base spare held fuel t cs = some x) :
    ∃ y0 y1 y2 y3 y4 n, DataW.trod enc P w base spare held n f0.type ((cs.drop f0.offset).take (P.cellsOf f0.type)) = some y0 ∧ DataW.trod enc P w base spare held n f1.type ((cs.drop f1.offset).take (P.cellsOf f1.type)) = some y1 ∧ DataW.trod enc P w base spare held n f2.type ((cs.drop f2.offset).take (P.cellsOf f2.type)) = some y2 ∧ DataW.trod enc P w base spare held n f3.type ((cs.drop f3.offset).take (P.cellsOf f3.type)) = some y3 ∧ DataW.trod enc P w base spare held n f4.type ((cs.drop f4.offset).take (P.cellsOf f4.type)) = some y4 := by
  obtain ⟨xs, n, _, rfl, hl, hlen, hf⟩ := DataW.trod_struct ht h
  match xs, hlen with
  | [y0, y1, y2, y3, y4], _ => exact ⟨y0, y1, y2, y3, y4, n, by simpa using hf 0 f0 rfl, by simpa using hf 1 f1 rfl, by simpa using hf 2 f2 rfl, by simpa using hf 3 f3 rfl, by simpa using hf 4 f4 rfl⟩
theorem num_cells {m : Nat} {cs : List Value} {y : DataW H × List MemPlace} (h : DataW.trod enc Tryz.prog W 0 (fun _ => true) true m 3 cs = some y) : ∃ i : Int, I6 i ∧ cs[0]? = some (.int .i64 i) := by
  obtain ⟨u, u1, -, u3⟩ := DataW.trod_int Tryz.underlying3 h
  exact ⟨u, i6_wf u3, by rw [u1]; rfl⟩
theorem nums_cells {m : Nat} {cs : List Value} {y : DataW H × List MemPlace} (h : DataW.trod enc Tryz.prog W 0 (fun _ => true) true m 36 cs = some y) : ∃ v l, cs = [v] ∧ Nl (Qw W) W v l := by
  rcases DataW.trod_slice Tryz.underlying36 h with ⟨rfl, _⟩ | ⟨a, len, cap, elems, rest, n, _, rfl, hx, _, hl, hm, hlen, hel, _, _⟩
  · exact ⟨_, [], rfl, ⟨none, 0, rfl, Nat.le_refl _, Nat.zero_le _, fun h => absurd h (by simp)⟩⟩
  · have hc2 : Tryz.prog.cellsOf 3 = 1 := by kernel_rfl
    have spot0 : 0 < len → ∃ b off, a = ⟨b, off, none⟩ := fun hp => by
      have h1 := hel 0 hp
      rw [List.getElem?_eq_getElem (by omega), hc2, Option.bind_eq_some_iff] at h1
      obtain ⟨cs', hcs', ht'⟩ := h1
      obtain ⟨i, -, k0⟩ := num_cells ht'
      obtain ⟨_, _, hcell⟩ := World.cells?_some hcs'
      have q0 := (hcell 0 (by omega)).trans k0
      obtain ⟨b, off, spot⟩ := a
      have hspot : spot = none := by simpa [Addr.add] using World.cell?_spot q0
      subst hspot
      exact ⟨b, off, rfl⟩
    have one : ∀ i, i < len → ∃ (k : Int) (b off : Nat), a = ⟨b, off, none⟩ ∧ I6 k ∧ W.cell? ⟨b, off + i, none⟩ = some (.int .i64 k) := fun i hi => by
      have h1 := hel i hi
      rw [List.getElem?_eq_getElem (by omega), hc2, Option.bind_eq_some_iff] at h1
      obtain ⟨cs', hcs', ht'⟩ := h1
      obtain ⟨x, i1, k0⟩ := num_cells ht'
      obtain ⟨_, _, hcell⟩ := World.cells?_some hcs'
      have q0 := (hcell 0 (by omega)).trans k0
      obtain ⟨b, off, rfl⟩ := spot0 (by omega)
      rw [Go.WideShapes.add_plain, Go.WideShapes.add_plain, Nat.mul_one] at q0
      exact ⟨x, b, off, rfl, i1, q0⟩
    have all : ∀ k, k ≤ len → ∃ ks : List Int, ks.length = k ∧ ∀ i (hi : i < ks.length), ∃ g o, a = ⟨g, o, none⟩ ∧ I6 ks[i] ∧ W.cell? ⟨g, o + i, none⟩ = some (.int .i64 ks[i]) := by
      intro k
      induction k with
      | zero => exact fun _ => ⟨[], rfl, fun j hj => absurd hj (by simp)⟩
      | succ k ih =>
        intro hk
        obtain ⟨l, e1, e3⟩ := ih (by omega)
        obtain ⟨x, b, off, ha, i1, c0⟩ := one k (by omega)
        refine ⟨l ++ [x], by simp [e1], fun j hj => ?_⟩
        by_cases c : j < l.length
        · rw [List.getElem_append_left c]
          exact e3 j c
        · have hje : j = l.length := by simp at hj; omega
          subst hje
          rw [List.getElem_append_right (Nat.le_refl _)]
          simp only [Nat.sub_self, List.getElem_cons_zero]
          exact ⟨b, off, ha, i1, by rw [e1]; exact c0⟩
    obtain ⟨l, e1, e3⟩ := all len (Nat.le_refl _)
    subst e1
    refine ⟨_, l, rfl, ⟨some a, cap, rfl, hl, hm, fun h0 => ?_⟩⟩
    obtain ⟨b, off, rfl⟩ := spot0 h0
    refine ⟨b, off, rfl, ?_, fun i hi => ?_⟩
    · obtain ⟨g, o, e, -, c0⟩ := e3 0 h0
      injection e with e4
      subst e4
      exact World.block_lt_of_cell? W _ c0
    · obtain ⟨g, o, e, i1, c0⟩ := e3 i hi
      injection e with e4 e5
      subst e4 e5
      exact ⟨i1, c0⟩
theorem take1 {cs : List Value} {k : Nat} {v : Value} (h : (cs.drop k).take 1 = [v]) : cs[k]? = some v := by
  have h2 := congrArg (fun l => l[0]?) h
  simpa [List.getElem?_take, List.getElem?_drop] using h2
theorem take4 {cs : List Value} {k j : Nat} {v : Value} (hj : j < 4) (h : ((cs.drop k).take 4)[j]? = some v) : cs[k + j]? = some v := by
  rwa [List.getElem?_take_of_lt hj, List.getElem?_drop] at h
theorem sy_cells {m : Nat} {cs : List Value} {y : DataW H × List MemPlace} (h : DataW.trod enc Tryz.prog W 0 (fun _ => true) true m 38 cs = some y) : ∃ (s : Sy) (v1 v2 v3 v4 vc : Value), I6 s.run.pa ∧ I6 s.run.lo ∧ cs[0]? = some v1 ∧ cs[1]? = some v2 ∧ cs[2]? = some v3 ∧ cs[3]? = some v4 ∧ cs[4]? = some (.string s.run.name) ∧ cs[5]? = some (.int .i64 s.run.pa) ∧ cs[6]? = some (.int .i64 s.run.lo) ∧ cs[7]? = some vc ∧ Nl (Qw W) W v1 s.wi ∧ Nl (Qw W) W v2 s.wo ∧ Nl (Qw W) W v3 s.re ∧ Nl (Qw W) W v4 s.wr ∧ Il (Qw W) W vc s.run.code := by
  have cN : Tryz.prog.cellsOf 36 = 1 := by kernel_rfl
  have cR : Tryz.prog.cellsOf 35 = 4 := by kernel_rfl
  obtain ⟨y0, y1, y2, y3, y4, n, f0, f1, f2, f3, f4⟩ := trod_struct5 Tryz.underlying38 h
  obtain ⟨v1, l1, a1, b1⟩ := nums_cells f0
  obtain ⟨v2, l2, a2, b2⟩ := nums_cells f1
  obtain ⟨v3, l3, a3, b3⟩ := nums_cells f2
  obtain ⟨v4, l4, a4, b4⟩ := nums_cells f3
  obtain ⟨r, vc, i1, i2, c0, c1, c2, c3, hc, -, -⟩ := rt_cells f4
  dsimp only at a1 a2 a3 a4 c0 c1 c2 c3
  rw [cN] at a1 a2 a3 a4
  rw [cR] at c0 c1 c2 c3
  exact ⟨⟨l1, l2, l3, l4, r⟩, v1, v2, v3, v4, vc, i1, i2, take1 a1, take1 a2, take1 a3, take1 a4, take4 (by omega) c0, take4 (by omega) c1, take4 (by omega) c2, take4 (by omega) c3, b1, b2, b3, b4, hc⟩
theorem syss_cells {m : Nat} {cs : List Value} {y : DataW H × List MemPlace} (h : DataW.trod enc Tryz.prog W 0 (fun _ => true) true m 22 cs = some y) : ∃ v l, cs = [v] ∧ Sys (Qw W) W v l := by
  rcases DataW.trod_slice Tryz.underlying22 h with ⟨rfl, _⟩ | ⟨a, len, cap, elems, rest, n, _, rfl, hx, _, hl, hm, hlen, hel, _, _⟩
  · exact ⟨_, [], rfl, ⟨none, 0, rfl, Nat.le_refl _, Nat.zero_le _, fun h => absurd h (by simp)⟩⟩
  · have hc2 : Tryz.prog.cellsOf 38 = 8 := by kernel_rfl
    have spot0 : 0 < len → ∃ b off, a = ⟨b, off, none⟩ := fun hp => by
      have h1 := hel 0 hp
      rw [List.getElem?_eq_getElem (by omega), hc2, Option.bind_eq_some_iff] at h1
      obtain ⟨cs', hcs', ht'⟩ := h1
      obtain ⟨i, v1, v2, v3, v4, vc, -, -, k0, -⟩ := sy_cells ht'
      obtain ⟨_, _, hcell⟩ := World.cells?_some hcs'
      have q0 := (hcell 0 (by omega)).trans k0
      obtain ⟨b, off, spot⟩ := a
      have hspot : spot = none := by simpa [Addr.add] using World.cell?_spot q0
      subst hspot
      exact ⟨b, off, rfl⟩
    have one : ∀ i, i < len → ∃ (k : Sy) (b off : Nat), a = ⟨b, off, none⟩ ∧ SyAt (Qw W) W b (off + i * 8) k := fun i hi => by
      have h1 := hel i hi
      rw [List.getElem?_eq_getElem (by omega), hc2, Option.bind_eq_some_iff] at h1
      obtain ⟨cs', hcs', ht'⟩ := h1
      obtain ⟨x, v1, v2, v3, v4, vc, i1, i2, k0, k1, k2, k3, k4, k5, k6, k7, n1, n2, n3, n4, n5⟩ := sy_cells ht'
      obtain ⟨_, _, hcell⟩ := World.cells?_some hcs'
      obtain ⟨b, off, rfl⟩ := spot0 (by omega)
      have q := fun j (hj : j < 8) v (hv : cs'[j]? = some v) => (show W.cell? ⟨b, off + i * 8 + j, none⟩ = some v by
        have := (hcell j hj).trans hv
        rwa [Go.WideShapes.add_plain, Go.WideShapes.add_plain] at this)
      exact ⟨x, b, off, rfl, i1, i2, v1, v2, v3, v4, vc, q 0 (by omega) _ k0, q 1 (by omega) _ k1, q 2 (by omega) _ k2, q 3 (by omega) _ k3, q 4 (by omega) _ k4, q 5 (by omega) _ k5, q 6 (by omega) _ k6, q 7 (by omega) _ k7, n1, n2, n3, n4, n5⟩
    have all : ∀ k, k ≤ len → ∃ ks : List Sy, ks.length = k ∧ ∀ i (hi : i < ks.length), ∃ g o, a = ⟨g, o, none⟩ ∧ SyAt (Qw W) W g (o + i * 8) ks[i] := by
      intro k
      induction k with
      | zero => exact fun _ => ⟨[], rfl, fun j hj => absurd hj (by simp)⟩
      | succ k ih =>
        intro hk
        obtain ⟨l, e1, e3⟩ := ih (by omega)
        obtain ⟨x, b, off, ha, c0⟩ := one k (by omega)
        refine ⟨l ++ [x], by simp [e1], fun j hj => ?_⟩
        by_cases c : j < l.length
        · rw [List.getElem_append_left c]
          exact e3 j c
        · have hje : j = l.length := by simp at hj; omega
          subst hje
          rw [List.getElem_append_right (Nat.le_refl _)]
          simp only [Nat.sub_self, List.getElem_cons_zero]
          exact ⟨b, off, ha, by rw [e1]; exact c0⟩
    obtain ⟨l, e1, e3⟩ := all len (Nat.le_refl _)
    subst e1
    refine ⟨_, l, rfl, ⟨some a, cap, rfl, hl, hm, fun h0 => ?_⟩⟩
    obtain ⟨b, off, rfl⟩ := spot0 h0
    refine ⟨b, off, rfl, ?_, fun i hi => ?_⟩
    · obtain ⟨g, o, e, -, -, v1, v2, v3, v4, vc, c0, -⟩ := e3 0 h0
      injection e with e4
      subst e4
      exact World.block_lt_of_cell? W _ c0
    · obtain ⟨g, o, e, c0⟩ := e3 i hi
      injection e with e4 e5
      subst e4 e5
      exact c0
theorem list_of {A : Type} {P : Nat → A → Prop} : ∀ {len : Nat}, (∀ i, i < len → ∃ k, P i k) → ∃ ks : List A, ks.length = len ∧ ∀ i (hi : i < ks.length), P i ks[i]
  | 0, _ => ⟨[], rfl, fun j hj => absurd hj (by simp)⟩
  | k + 1, h => by
    obtain ⟨l, e1, e3⟩ := list_of (len := k) (fun i hi => h i (by omega))
    obtain ⟨x, hx⟩ := h k (by omega)
    refine ⟨l ++ [x], by simp [e1], fun j hj => ?_⟩
    by_cases c : j < l.length
    · rw [List.getElem_append_left c]
      exact e3 j c
    · have hje : j = l.length := by simp at hj; omega
      subst hje
      rw [List.getElem_append_right (Nat.le_refl _)]
      simp only [Nat.sub_self, List.getElem_cons_zero]
      rw [e1]
      exact hx
theorem str_cells {m : Nat} {cs : List Value} {y : DataW H × List MemPlace} (h : DataW.trod enc Tryz.prog W 0 (fun _ => true) true m 9 cs = some y) : ∃ s : ByteArray, cs = [.string s] := by
  obtain ⟨s, s1, -, -⟩ := DataW.trod_string Tryz.underlying9 h
  exact ⟨s, s1⟩
theorem strs_cells {m : Nat} {cs : List Value} {y : DataW H × List MemPlace} (h : DataW.trod enc Tryz.prog W 0 (fun _ => true) true m 61 cs = some y) : ∃ v l, cs = [v] ∧ Sr W v l := by
  rcases DataW.trod_slice Tryz.underlying61 h with ⟨rfl, _⟩ | ⟨a, len, cap, elems, rest, n, _, rfl, hx, _, hl, hm, hlen, hel, _, _⟩
  · exact ⟨_, [], rfl, ⟨none, 0, rfl, Nat.le_refl _, Nat.zero_le _, fun j h => absurd h (by simp)⟩⟩
  · have hc2 : Tryz.prog.cellsOf 9 = 1 := by kernel_rfl
    have spot0 : 0 < len → ∃ b off, a = ⟨b, off, none⟩ := fun hp => by
      have h1 := hel 0 hp
      rw [List.getElem?_eq_getElem (by omega), hc2, Option.bind_eq_some_iff] at h1
      obtain ⟨cs', hcs', ht'⟩ := h1
      obtain ⟨x, rfl⟩ := str_cells ht'
      obtain ⟨_, _, hcell⟩ := World.cells?_some hcs'
      have q0 := hcell 0 (by omega)
      obtain ⟨b, off, spot⟩ := a
      have hspot : spot = none := by simpa [Addr.add] using World.cell?_spot q0
      subst hspot
      exact ⟨b, off, rfl⟩
    have one : ∀ i, i < len → ∃ k : ByteArray, ∃ b off, some a = some (⟨b, off, none⟩ : Addr) ∧ W.cell? ⟨b, off + i, none⟩ = some (.string k) := fun i hi => by
      have h1 := hel i hi
      rw [List.getElem?_eq_getElem (by omega), hc2, Option.bind_eq_some_iff] at h1
      obtain ⟨cs', hcs', ht'⟩ := h1
      obtain ⟨x, rfl⟩ := str_cells ht'
      obtain ⟨_, _, hcell⟩ := World.cells?_some hcs'
      have q0 := hcell 0 (by omega)
      obtain ⟨b, off, rfl⟩ := spot0 (by omega)
      rw [Go.WideShapes.add_plain, Go.WideShapes.add_plain, Nat.mul_one] at q0
      exact ⟨x, b, off, rfl, q0⟩
    obtain ⟨l, e1, e3⟩ := list_of one
    subst e1
    exact ⟨_, l, rfl, ⟨some a, cap, rfl, hl, hm, fun i hi => e3 i hi⟩⟩
theorem kind_cells {m : Nat} {cs : List Value} {y : DataW H × List MemPlace} (h : DataW.trod enc Tryz.prog W 0 (fun _ => true) true m 63 cs = some y) : ∃ (k : Kind) (vf : Value), cs[0]? = some (.string k.1) ∧ cs[1]? = some vf ∧ Sr W vf k.2 := by
  have cS : Tryz.prog.cellsOf 9 = 1 := by kernel_rfl
  have cF : Tryz.prog.cellsOf 61 = 1 := by kernel_rfl
  obtain ⟨y0, y1, n, -, -, f0, f1⟩ := trod_struct2 Tryz.underlying63 h
  obtain ⟨s, s1⟩ := str_cells f0
  obtain ⟨v, l, v1, v2⟩ := strs_cells f1
  dsimp only at s1 v1
  rw [cS] at s1
  rw [cF] at v1
  exact ⟨(s, l), v, take1 s1, take1 v1, v2⟩
theorem kinds_cells {m : Nat} {cs : List Value} {y : DataW H × List MemPlace} (h : DataW.trod enc Tryz.prog W 0 (fun _ => true) true m 26 cs = some y) : ∃ v l, cs = [v] ∧ Kr W v l := by
  rcases DataW.trod_slice Tryz.underlying26 h with ⟨rfl, _⟩ | ⟨a, len, cap, elems, rest, n, _, rfl, hx, _, hl, hm, hlen, hel, _, _⟩
  · exact ⟨_, [], rfl, ⟨none, 0, rfl, Nat.le_refl _, Nat.zero_le _, fun j h => absurd h (by simp)⟩⟩
  · have hc2 : Tryz.prog.cellsOf 63 = 2 := by kernel_rfl
    have spot0 : 0 < len → ∃ b off, a = ⟨b, off, none⟩ := fun hp => by
      have h1 := hel 0 hp
      rw [List.getElem?_eq_getElem (by omega), hc2, Option.bind_eq_some_iff] at h1
      obtain ⟨cs', hcs', ht'⟩ := h1
      obtain ⟨x, vf, k0, -, -⟩ := kind_cells ht'
      obtain ⟨_, _, hcell⟩ := World.cells?_some hcs'
      have q0 := (hcell 0 (by omega)).trans k0
      obtain ⟨b, off, spot⟩ := a
      have hspot : spot = none := by simpa [Addr.add] using World.cell?_spot q0
      subst hspot
      exact ⟨b, off, rfl⟩
    have one : ∀ i, i < len → ∃ k : Kind, ∃ b off vf, some a = some (⟨b, off, none⟩ : Addr) ∧ W.cell? ⟨b, off + i * 2, none⟩ = some (.string k.1) ∧ W.cell? ⟨b, off + i * 2 + 1, none⟩ = some vf ∧ Sr W vf k.2 := fun i hi => by
      have h1 := hel i hi
      rw [List.getElem?_eq_getElem (by omega), hc2, Option.bind_eq_some_iff] at h1
      obtain ⟨cs', hcs', ht'⟩ := h1
      obtain ⟨x, vf, k0, k1, k2⟩ := kind_cells ht'
      obtain ⟨_, _, hcell⟩ := World.cells?_some hcs'
      have q0 := (hcell 0 (by omega)).trans k0
      have q1 := (hcell 1 (by omega)).trans k1
      obtain ⟨b, off, rfl⟩ := spot0 (by omega)
      rw [Go.WideShapes.add_plain, Go.WideShapes.add_plain] at q0 q1
      exact ⟨x, b, off, vf, rfl, q0, q1, k2⟩
    obtain ⟨l, e1, e3⟩ := list_of one
    subst e1
    exact ⟨_, l, rfl, ⟨some a, cap, rfl, hl, hm, fun i hi => e3 i hi⟩⟩
theorem bools_cells {m : Nat} {cs : List Value} {y : DataW H × List MemPlace} (h : DataW.trod enc Tryz.prog W 0 (fun _ => true) true m 126 cs = some y) : ∃ v, ∃ l : List Bool, cs = [v] ∧ ∃ ao c, v = .slice ao l.length c ∧ l.length ≤ c ∧ c ≤ 9223372036854775807 ∧ (0 < l.length → ∃ g o, ao = some ⟨g, o, none⟩ ∧ ∀ i (h : i < l.length), W.cell? ⟨g, o + i, none⟩ = some (.bool l[i])) := by
  rcases DataW.trod_slice Tryz.underlying126 h with ⟨rfl, _⟩ | ⟨a, len, cap, elems, rest, n, _, rfl, hx, _, hl, hm, hlen, hel, _, _⟩
  · exact ⟨_, [], rfl, ⟨none, 0, rfl, Nat.le_refl _, Nat.zero_le _, fun h => absurd h (by simp)⟩⟩
  · have hc2 : Tryz.prog.cellsOf 4 = 1 := by kernel_rfl
    have spot0 : 0 < len → ∃ b off, a = ⟨b, off, none⟩ := fun hp => by
      have h1 := hel 0 hp
      rw [List.getElem?_eq_getElem (by omega), hc2, Option.bind_eq_some_iff] at h1
      obtain ⟨cs', hcs', ht'⟩ := h1
      obtain ⟨x, rfl, -⟩ := DataW.trod_bool Tryz.underlying4 ht'
      obtain ⟨_, _, hcell⟩ := World.cells?_some hcs'
      have q0 := hcell 0 (by omega)
      obtain ⟨b, off, spot⟩ := a
      have hspot : spot = none := by simpa [Addr.add] using World.cell?_spot q0
      subst hspot
      exact ⟨b, off, rfl⟩
    have one : ∀ i, i < len → ∃ k : Bool, ∃ b off, a = (⟨b, off, none⟩ : Addr) ∧ W.cell? ⟨b, off + i, none⟩ = some (.bool k) := fun i hi => by
      have h1 := hel i hi
      rw [List.getElem?_eq_getElem (by omega), hc2, Option.bind_eq_some_iff] at h1
      obtain ⟨cs', hcs', ht'⟩ := h1
      obtain ⟨x, rfl, -⟩ := DataW.trod_bool Tryz.underlying4 ht'
      obtain ⟨_, _, hcell⟩ := World.cells?_some hcs'
      have q0 := hcell 0 (by omega)
      obtain ⟨b, off, rfl⟩ := spot0 (by omega)
      rw [Go.WideShapes.add_plain, Go.WideShapes.add_plain, Nat.mul_one] at q0
      exact ⟨x, b, off, rfl, q0⟩
    obtain ⟨l, e1, e3⟩ := list_of one
    subst e1
    refine ⟨_, l, rfl, ⟨some a, cap, rfl, hl, hm, fun h0 => ?_⟩⟩
    obtain ⟨g, o, rfl, -⟩ := e3 0 h0
    refine ⟨g, o, rfl, fun i hi => ?_⟩
    obtain ⟨g', o', e, c0⟩ := e3 i hi
    injection e with e4 e5
    subst e4 e5
    exact c0
end
end Go.Proofs.YtfkhhplcogedmaaGreatDoor
