/-
  Programs and bytes that come in, opened.
-/
import Derived.Test.YtpolajoephjdhaaGreatDoorWdM
import Derived.Test.YtpolajoephjdhaaGreatDoorEnM
namespace Go.Proofs.YtpolajoephjdhaaGreatDoor
open Go.ChangeShapes Go.WideShapes Go.ChangeAt Go.RowKit
set_option maxRecDepth 100000
section
variable {H : Type} {enc : TypeId × Value → H} {W : World}
theorem trod_struct5 {P : Program} {w : World} {base : Nat} {spare : TypeId → Bool} {held : Bool} {t : TypeId} {f0 f1 f2 f3 f4 : Field} {fuel : Nat} {cs : List Value} {x : DataW H × List MemPlace} (ht : P.underlying t = some (.struct #[f0, f1, f2, f3, f4])) (h : DataW.trod enc P w base spare held fuel t cs = some x) :
    ∃ y0 y1 y2 y3 y4 n, DataW.trod enc P w base spare held n f0.type ((cs.drop f0.offset).take (P.cellsOf f0.type)) = some y0 ∧ DataW.trod enc P w base spare held n f1.type ((cs.drop f1.offset).take (P.cellsOf f1.type)) = some y1 ∧ DataW.trod enc P w base spare held n f2.type ((cs.drop f2.offset).take (P.cellsOf f2.type)) = some y2 ∧ DataW.trod enc P w base spare held n f3.type ((cs.drop f3.offset).take (P.cellsOf f3.type)) = some y3 ∧ DataW.trod enc P w base spare held n f4.type ((cs.drop f4.offset).take (P.cellsOf f4.type)) = some y4 := by
  obtain ⟨xs, n, _, rfl, hl, hlen, hf⟩ := DataW.trod_struct ht h
  match xs, hlen with
  | [y0, y1, y2, y3, y4], _ => exact ⟨y0, y1, y2, y3, y4, n, by simpa using hf 0 f0 rfl, by simpa using hf 1 f1 rfl, by simpa using hf 2 f2 rfl, by simpa using hf 3 f3 rfl, by simpa using hf 4 f4 rfl⟩
theorem num_cells {m : Nat} {cs : List Value} {y : DataW H × List MemPlace} (h : DataW.trod enc Tryz.prog W 0 (fun _ => true) true m 3 cs = some y) : ∃ i : Int, I6 i ∧ cs[0]? = some (.int .i64 i) := by
  obtain ⟨u, u1, -, u3⟩ := DataW.trod_int Tryz.underlying3 h
  exact ⟨u, i6_wf u3, by rw [u1]; rfl⟩
theorem nums_cells {m : Nat} {cs : List Value} {y : DataW H × List MemPlace} (h : DataW.trod enc Tryz.prog W 0 (fun _ => true) true m 42 cs = some y) : ∃ v l, cs = [v] ∧ Nl (Qw W) W v l := by
  rcases DataW.trod_slice Tryz.underlying42 h with ⟨rfl, _⟩ | ⟨a, len, cap, elems, rest, n, _, rfl, hx, _, hl, hm, hlen, hel, _, _⟩
  · exact ⟨_, [], rfl, ⟨none, 0, rfl, Nat.le_refl _, Nat.zero_le _, fun h => absurd h (by simp)⟩⟩
  · have hc2 : Tryz.prog.cellsOf 3 = 1 := by kernel_rfl
    have spot0 : 0 < len → ∃ b off, a = ⟨b, off, none⟩ := fun hp => by
      have h1 := hel 0 hp
      rw [List.getElem?_eq_getElem (by omega), hc2, Option.bind_eq_some_iff] at h1
      obtain ⟨cs', hcs', ht'⟩ := h1
      obtain ⟨i, -, k0⟩ := num_cells ht'
      obtain ⟨_, _, hcell⟩ := World.cells?_some hcs'
      have q0 := (hcell 0 (by omega)).trans k0
      obtain ⟨b, off, spot⟩ := a
      have hspot : spot = none := by simpa [Addr.add] using World.cell?_spot q0
      subst hspot
      exact ⟨b, off, rfl⟩
    have one : ∀ i, i < len → ∃ (k : Int) (b off : Nat), a = ⟨b, off, none⟩ ∧ I6 k ∧ W.cell? ⟨b, off + i, none⟩ = some (.int .i64 k) := fun i hi => by
      have h1 := hel i hi
      rw [List.getElem?_eq_getElem (by omega), hc2, Option.bind_eq_some_iff] at h1
      obtain ⟨cs', hcs', ht'⟩ := h1
      obtain ⟨x, i1, k0⟩ := num_cells ht'
      obtain ⟨_, _, hcell⟩ := World.cells?_some hcs'
      have q0 := (hcell 0 (by omega)).trans k0
      obtain ⟨b, off, rfl⟩ := spot0 (by omega)
      rw [Go.WideShapes.add_plain, Go.WideShapes.add_plain, Nat.mul_one] at q0
      exact ⟨x, b, off, rfl, i1, q0⟩
    have all : ∀ k, k ≤ len → ∃ ks : List Int, ks.length = k ∧ ∀ i (hi : i < ks.length), ∃ g o, a = ⟨g, o, none⟩ ∧ I6 ks[i] ∧ W.cell? ⟨g, o + i, none⟩ = some (.int .i64 ks[i]) := by
      intro k
      induction k with
      | zero => exact fun _ => ⟨[], rfl, fun j hj => absurd hj (by simp)⟩
      | succ k ih =>
        intro hk
        obtain ⟨l, e1, e3⟩ := ih (by omega)
        obtain ⟨x, b, off, ha, i1, c0⟩ := one k (by omega)
        refine ⟨l ++ [x], by simp [e1], fun j hj => ?_⟩
        by_cases c : j < l.length
        · rw [List.getElem_append_left c]
          exact e3 j c
        · have hje : j = l.length := by simp at hj; omega
          subst hje
          rw [List.getElem_append_right (Nat.le_refl _)]
          simp only [Nat.sub_self, List.getElem_cons_zero]
          exact ⟨b, off, ha, i1, by rw [e1]; exact c0⟩
    obtain ⟨l, e1, e3⟩ := all len (Nat.le_refl _)
    subst e1
    refine ⟨_, l, rfl, ⟨some a, cap, rfl, hl, hm, fun h0 => ?_⟩⟩
    obtain ⟨b, off, rfl⟩ := spot0 h0
    refine ⟨b, off, rfl, ?_, fun i hi => ?_⟩
    · obtain ⟨g, o, e, -, c0⟩ := e3 0 h0
      injection e with e4
      subst e4
      exact World.block_lt_of_cell? W _ c0
    · obtain ⟨g, o, e, i1, c0⟩ := e3 i hi
      injection e with e4 e5
      subst e4 e5
      exact ⟨i1, c0⟩
theorem take1 {cs : List Value} {k : Nat} {v : Value} (h : (cs.drop k).take 1 = [v]) : cs[k]? = some v := by
  have h2 := congrArg (fun l => l[0]?) h
  simpa [List.getElem?_take, List.getElem?_drop] using h2
theorem take4 {cs : List Value} {k j : Nat} {v : Value} (hj : j < 4) (h : ((cs.drop k).take 4)[j]? = some v) : cs[k + j]? = some v := by
  rwa [List.getElem?_take_of_lt hj, List.getElem?_drop] at h
theorem sy_cells {m : Nat} {cs : List Value} {y : DataW H × List MemPlace} (h : DataW.trod enc Tryz.prog W 0 (fun _ => true) true m 47 cs = some y) : ∃ (s : Sy) (v1 v2 v3 v4 vc : Value), I6 s.run.pa ∧ I6 s.run.lo ∧ cs[0]? = some v1 ∧ cs[1]? = some v2 ∧ cs[2]? = some v3 ∧ cs[3]? = some v4 ∧ cs[4]? = some (.string s.run.name) ∧ cs[5]? = some (.int .i64 s.run.pa) ∧ cs[6]? = some (.int .i64 s.run.lo) ∧ cs[7]? = some vc ∧ Nl (Qw W) W v1 s.wi ∧ Nl (Qw W) W v2 s.wo ∧ Nl (Qw W) W v3 s.re ∧ Nl (Qw W) W v4 s.wr ∧ Il (Qw W) W vc s.run.code := by
  have cN : Tryz.prog.cellsOf 42 = 1 := by kernel_rfl
  have cR : Tryz.prog.cellsOf 45 = 4 := by kernel_rfl
  obtain ⟨y0, y1, y2, y3, y4, n, f0, f1, f2, f3, f4⟩ := trod_struct5 Tryz.underlying47 h
  obtain ⟨v1, l1, a1, b1⟩ := nums_cells f0
  obtain ⟨v2, l2, a2, b2⟩ := nums_cells f1
  obtain ⟨v3, l3, a3, b3⟩ := nums_cells f2
  obtain ⟨v4, l4, a4, b4⟩ := nums_cells f3
  obtain ⟨r, vc, i1, i2, c0, c1, c2, c3, hc, -, -⟩ := rt_cells f4
  dsimp only at a1 a2 a3 a4 c0 c1 c2 c3
  rw [cN] at a1 a2 a3 a4
  rw [cR] at c0 c1 c2 c3
  exact ⟨⟨l1, l2, l3, l4, r⟩, v1, v2, v3, v4, vc, i1, i2, take1 a1, take1 a2, take1 a3, take1 a4, take4 (by omega) c0, take4 (by omega) c1, take4 (by omega) c2, take4 (by omega) c3, b1, b2, b3, b4, hc⟩
theorem syss_cells {m : Nat} {cs : List Value} {y : DataW H × List MemPlace} (h : DataW.trod enc Tryz.prog W 0 (fun _ => true) true m 24 cs = some y) : ∃ v l, cs = [v] ∧ Sys (Qw W) W v l := by
  rcases DataW.trod_slice Tryz.underlying24 h with ⟨rfl, _⟩ | ⟨a, len, cap, elems, rest, n, _, rfl, hx, _, hl, hm, hlen, hel, _, _⟩
  · exact ⟨_, [], rfl, ⟨none, 0, rfl, Nat.le_refl _, Nat.zero_le _, fun h => absurd h (by simp)⟩⟩
  · have hc2 : Tryz.prog.cellsOf 47 = 8 := by kernel_rfl
    have spot0 : 0 < len → ∃ b off, a = ⟨b, off, none⟩ := fun hp => by
      have h1 := hel 0 hp
      rw [List.getElem?_eq_getElem (by omega), hc2, Option.bind_eq_some_iff] at h1
      obtain ⟨cs', hcs', ht'⟩ := h1
      obtain ⟨i, v1, v2, v3, v4, vc, -, -, k0, -⟩ := sy_cells ht'
      obtain ⟨_, _, hcell⟩ := World.cells?_some hcs'
      have q0 := (hcell 0 (by omega)).trans k0
      obtain ⟨b, off, spot⟩ := a
      have hspot : spot = none := by simpa [Addr.add] using World.cell?_spot q0
      subst hspot
      exact ⟨b, off, rfl⟩
    have one : ∀ i, i < len → ∃ (k : Sy) (b off : Nat), a = ⟨b, off, none⟩ ∧ SyAt (Qw W) W b (off + i * 8) k := fun i hi => by
      have h1 := hel i hi
      rw [List.getElem?_eq_getElem (by omega), hc2, Option.bind_eq_some_iff] at h1
      obtain ⟨cs', hcs', ht'⟩ := h1
      obtain ⟨x, v1, v2, v3, v4, vc, i1, i2, k0, k1, k2, k3, k4, k5, k6, k7, n1, n2, n3, n4, n5⟩ := sy_cells ht'
      obtain ⟨_, _, hcell⟩ := World.cells?_some hcs'
      obtain ⟨b, off, rfl⟩ := spot0 (by omega)
      have q := fun j (hj : j < 8) v (hv : cs'[j]? = some v) => (show W.cell? ⟨b, off + i * 8 + j, none⟩ = some v by
        have := (hcell j hj).trans hv
        rwa [Go.WideShapes.add_plain, Go.WideShapes.add_plain] at this)
      exact ⟨x, b, off, rfl, i1, i2, v1, v2, v3, v4, vc, q 0 (by omega) _ k0, q 1 (by omega) _ k1, q 2 (by omega) _ k2, q 3 (by omega) _ k3, q 4 (by omega) _ k4, q 5 (by omega) _ k5, q 6 (by omega) _ k6, q 7 (by omega) _ k7, n1, n2, n3, n4, n5⟩
    have all : ∀ k, k ≤ len → ∃ ks : List Sy, ks.length = k ∧ ∀ i (hi : i < ks.length), ∃ g o, a = ⟨g, o, none⟩ ∧ SyAt (Qw W) W g (o + i * 8) ks[i] := by
      intro k
      induction k with
      | zero => exact fun _ => ⟨[], rfl, fun j hj => absurd hj (by simp)⟩
      | succ k ih =>
        intro hk
        obtain ⟨l, e1, e3⟩ := ih (by omega)
        obtain ⟨x, b, off, ha, c0⟩ := one k (by omega)
        refine ⟨l ++ [x], by simp [e1], fun j hj => ?_⟩
        by_cases c : j < l.length
        · rw [List.getElem_append_left c]
          exact e3 j c
        · have hje : j = l.length := by simp at hj; omega
          subst hje
          rw [List.getElem_append_right (Nat.le_refl _)]
          simp only [Nat.sub_self, List.getElem_cons_zero]
          exact ⟨b, off, ha, by rw [e1]; exact c0⟩
    obtain ⟨l, e1, e3⟩ := all len (Nat.le_refl _)
    subst e1
    refine ⟨_, l, rfl, ⟨some a, cap, rfl, hl, hm, fun h0 => ?_⟩⟩
    obtain ⟨b, off, rfl⟩ := spot0 h0
    refine ⟨b, off, rfl, ?_, fun i hi => ?_⟩
    · obtain ⟨g, o, e, -, -, v1, v2, v3, v4, vc, c0, -⟩ := e3 0 h0
      injection e with e4
      subst e4
      exact World.block_lt_of_cell? W _ c0
    · obtain ⟨g, o, e, c0⟩ := e3 i hi
      injection e with e4 e5
      subst e4 e5
      exact c0
theorem byte_cells {m : Nat} {cs : List Value} {y : DataW H × List MemPlace} (h : DataW.trod enc Tryz.prog W 0 (fun _ => true) true m 5 cs = some y) : ∃ b : UInt8, cs[0]? = some (.int .u8 b.toNat) := by
  obtain ⟨u, u1, -, u3⟩ := DataW.trod_int Tryz.underlying5 h
  have m1 : IntKind.u8.min = 0 := by rfl
  have m2 : IntKind.u8.max = 255 := by rfl
  have hu : 0 ≤ u ∧ u ≤ 255 := by
    simp [Lit.wf, m1, m2] at u3
    omega
  refine ⟨UInt8.ofNat u.toNat, ?_⟩
  rw [u1]
  show some (Value.int .u8 u) = _
  have : ((UInt8.ofNat u.toNat).toNat : Int) = u := by
    rw [UInt8.toNat_ofNat']
    omega
  rw [this]
theorem bytes_cells {m : Nat} {cs : List Value} {y : DataW H × List MemPlace} (h : DataW.trod enc Tryz.prog W 0 (fun _ => true) true m 22 cs = some y) (hw : ∀ n ∈ y.1.weights Tryz.prog 22, n ≤ reachBytes) : ∃ v l, cs = [v] ∧ Bs W v l ∧ (∀ n c, v = .slice none n c → n = 0) ∧ l.length ≤ 140737488351232 := by
  rcases DataW.trod_slice Tryz.underlying22 h with ⟨rfl, _⟩ | ⟨a, len, cap, elems, rest, n, _, rfl, hx, _, hl, hm, hlen, hel, _, _⟩
  · exact ⟨_, [], rfl, Bs.nil W, (fun n c e => by injection e with _ e1 e2; exact e1.symm), by simp⟩
  · have hc2 : Tryz.prog.cellsOf 5 = 1 := by kernel_rfl
    have hsz : len ≤ 140737488351232 := by
      have hb : Tryz.prog.bytesOf 5 = 1 := by kernel_rfl
      have := hw ((elems.length + rest.length) * 1) (by
        rw [hx]
        unfold DataW.weights
        rw [Tryz.underlying22]
        dsimp only
        rw [hb, List.length_map, List.length_map]
        exact List.mem_cons_self)
      unfold reachBytes at this
      omega
    have spot0 : 0 < len → ∃ b off, a = ⟨b, off, none⟩ := fun hp => by
      have h1 := hel 0 hp
      rw [List.getElem?_eq_getElem (by omega), hc2, Option.bind_eq_some_iff] at h1
      obtain ⟨cs', hcs', ht'⟩ := h1
      obtain ⟨i, k0⟩ := byte_cells ht'
      obtain ⟨_, _, hcell⟩ := World.cells?_some hcs'
      have q0 := (hcell 0 (by omega)).trans k0
      obtain ⟨b, off, spot⟩ := a
      have hspot : spot = none := by simpa [Addr.add] using World.cell?_spot q0
      subst hspot
      exact ⟨b, off, rfl⟩
    have one : ∀ i, i < len → ∃ (k : UInt8) (b off : Nat), a = ⟨b, off, none⟩ ∧ W.cell? ⟨b, off + i, none⟩ = some (.int .u8 k.toNat) := fun i hi => by
      have h1 := hel i hi
      rw [List.getElem?_eq_getElem (by omega), hc2, Option.bind_eq_some_iff] at h1
      obtain ⟨cs', hcs', ht'⟩ := h1
      obtain ⟨x, k0⟩ := byte_cells ht'
      obtain ⟨_, _, hcell⟩ := World.cells?_some hcs'
      have q0 := (hcell 0 (by omega)).trans k0
      obtain ⟨b, off, rfl⟩ := spot0 (by omega)
      rw [Go.WideShapes.add_plain, Go.WideShapes.add_plain, Nat.mul_one] at q0
      exact ⟨x, b, off, rfl, q0⟩
    have all : ∀ k, k ≤ len → ∃ ks : List UInt8, ks.length = k ∧ ∀ i (hi : i < ks.length), ∃ g o, a = ⟨g, o, none⟩ ∧ W.cell? ⟨g, o + i, none⟩ = some (.int .u8 ks[i].toNat) := by
      intro k
      induction k with
      | zero => exact fun _ => ⟨[], rfl, fun j hj => absurd hj (by simp)⟩
      | succ k ih =>
        intro hk
        obtain ⟨l, e1, e3⟩ := ih (by omega)
        obtain ⟨x, b, off, ha, c0⟩ := one k (by omega)
        refine ⟨l ++ [x], by simp [e1], fun j hj => ?_⟩
        by_cases c : j < l.length
        · rw [List.getElem_append_left c]
          exact e3 j c
        · have hje : j = l.length := by simp at hj; omega
          subst hje
          rw [List.getElem_append_right (Nat.le_refl _)]
          simp only [Nat.sub_self, List.getElem_cons_zero]
          exact ⟨b, off, ha, by rw [e1]; exact c0⟩
    obtain ⟨l, e1, e3⟩ := all len (Nat.le_refl _)
    subst e1
    refine ⟨_, l, rfl, ⟨some a, cap, rfl, hl, hm, fun j hj => ?_⟩, (fun n c e => by injection e with e0; cases e0), hsz⟩
    obtain ⟨g, o, e, c0⟩ := e3 j hj
    exact ⟨g, o, by rw [e], c0⟩
end
end Go.Proofs.YtpolajoephjdhaaGreatDoor
