/-
  How much a program that comes in holds, by its bulk.
-/
import Derived.Test.YtpolajoephjdhaaGreatDoorRwC
import Derived.Test.YtpolajoephjdhaaGreatDoorRwM
namespace Go.Proofs.YtpolajoephjdhaaGreatDoor
open Go.ChangeShapes Go.WideShapes Go.ChangeAt Go.RowKit
set_option maxRecDepth 100000
theorem bulkE_one {H : Type} (d : DataW H) : 1 ≤ Rows.uptoBulk d := by
  cases d with
  | lit l => cases l <;> simp [Rows.uptoBulk]
  | _ => simp [Rows.uptoBulk]
theorem bulkE_len {H : Type} : ∀ l : List (DataW H), l.length ≤ Rows.uptoBulkAll l
  | [] => by simp [Rows.uptoBulkAll]
  | x :: r => by
    have h1 := bulkE_one x
    have h2 := bulkE_len r
    simp only [Rows.uptoBulkAll, List.length_cons]
    omega
theorem bulk_mem {H : Type} {x : DataW H} : ∀ {l : List (DataW H)}, x ∈ l → Rows.uptoBulk x ≤ Rows.uptoBulkAll l
  | y :: r, h => by
    simp only [Rows.uptoBulkAll]
    rcases List.mem_cons.1 h with rfl | h
    · omega
    · have := bulk_mem h
      omega
def RtZ (B : Nat) (r : Rt) : Prop := r.name.size ≤ 9223372036854775807 ∧ r.code.length ≤ B
def SyZ (B : Nat) (s : Sy) : Prop := s.run.name.size ≤ 9223372036854775807 ∧ s.wi.length ≤ B ∧ s.wo.length ≤ B ∧ s.re.length ≤ B ∧ s.wr.length ≤ B ∧ s.run.code.length ≤ B
theorem RtZ.mono {B B' : Nat} {r : Rt} (h : RtZ B r) (hb : B ≤ B') : RtZ B' r := ⟨h.1, Nat.le_trans h.2 hb⟩
theorem SyZ.mono {B B' : Nat} {s : Sy} (h : SyZ B s) (hb : B ≤ B') : SyZ B' s := ⟨h.1, Nat.le_trans h.2.1 hb, Nat.le_trans h.2.2.1 hb, Nat.le_trans h.2.2.2.1 hb, Nat.le_trans h.2.2.2.2.1 hb, Nat.le_trans h.2.2.2.2.2 hb⟩
section
variable {H : Type} {enc : TypeId × Value → H} {W : World}
theorem codeE_bulk {m : Nat} {cs : List Value} {y : DataW H × List MemPlace} (h : DataW.trod enc Tryz.prog W 0 (fun _ => true) true m 43 cs = some y) : ∃ a len cap, cs = [.slice a len cap] ∧ len + 1 ≤ Rows.uptoBulk y.1 := by
  rcases DataW.trod_slice Tryz.underlying43 h with ⟨rfl, rfl⟩ | ⟨a, len, cap, elems, rest, n, _, rfl, hx, _, hl, hm, hlen, hel, _, _⟩
  · exact ⟨_, _, _, rfl, by simp [Rows.uptoBulk]⟩
  · refine ⟨_, _, _, rfl, ?_⟩
    rw [hx]
    have h1 := bulkE_len (elems.map (·.1))
    rw [List.length_map] at h1
    simp only [Rows.uptoBulk]
    omega
theorem nums_bulk {m : Nat} {cs : List Value} {y : DataW H × List MemPlace} (h : DataW.trod enc Tryz.prog W 0 (fun _ => true) true m 42 cs = some y) : ∃ v l, cs = [v] ∧ Nl (Qw W) W v l ∧ l.length ≤ Rows.uptoBulk y.1 := by
  rcases DataW.trod_slice Tryz.underlying42 h with ⟨rfl, _⟩ | ⟨a, len, cap, elems, rest, n, _, rfl, hx, _, hl, hm, hlen, hel, _, _⟩
  · exact ⟨_, [], rfl, ⟨none, 0, rfl, Nat.le_refl _, Nat.zero_le _, fun h => absurd h (by simp)⟩, Nat.zero_le _⟩
  · have hc2 : Tryz.prog.cellsOf 3 = 1 := by kernel_rfl
    have spot0 : 0 < len → ∃ b off, a = ⟨b, off, none⟩ := fun hp => by
      have h1 := hel 0 hp
      rw [List.getElem?_eq_getElem (by omega), hc2, Option.bind_eq_some_iff] at h1
      obtain ⟨cs', hcs', ht'⟩ := h1
      obtain ⟨i, -, k0⟩ := num_cells ht'
      obtain ⟨_, _, hcell⟩ := World.cells?_some hcs'
      have q0 := (hcell 0 (by omega)).trans k0
      obtain ⟨b, off, spot⟩ := a
      have hspot : spot = none := by simpa [Addr.add] using World.cell?_spot q0
      subst hspot
      exact ⟨b, off, rfl⟩
    have one : ∀ i, i < len → ∃ (k : Int) (b off : Nat), a = ⟨b, off, none⟩ ∧ I6 k ∧ W.cell? ⟨b, off + i, none⟩ = some (.int .i64 k) := fun i hi => by
      have h1 := hel i hi
      rw [List.getElem?_eq_getElem (by omega), hc2, Option.bind_eq_some_iff] at h1
      obtain ⟨cs', hcs', ht'⟩ := h1
      obtain ⟨x, i1, k0⟩ := num_cells ht'
      obtain ⟨_, _, hcell⟩ := World.cells?_some hcs'
      have q0 := (hcell 0 (by omega)).trans k0
      obtain ⟨b, off, rfl⟩ := spot0 (by omega)
      rw [Go.WideShapes.add_plain, Go.WideShapes.add_plain, Nat.mul_one] at q0
      exact ⟨x, b, off, rfl, i1, q0⟩
    have all : ∀ k, k ≤ len → ∃ ks : List Int, ks.length = k ∧ ∀ i (hi : i < ks.length), ∃ g o, a = ⟨g, o, none⟩ ∧ I6 ks[i] ∧ W.cell? ⟨g, o + i, none⟩ = some (.int .i64 ks[i]) := by
      intro k
      induction k with
      | zero => exact fun _ => ⟨[], rfl, fun j hj => absurd hj (by simp)⟩
      | succ k ih =>
        intro hk
        obtain ⟨l, e1, e3⟩ := ih (by omega)
        obtain ⟨x, b, off, ha, i1, c0⟩ := one k (by omega)
        refine ⟨l ++ [x], by simp [e1], fun j hj => ?_⟩
        by_cases c : j < l.length
        · rw [List.getElem_append_left c]
          exact e3 j c
        · have hje : j = l.length := by simp at hj; omega
          subst hje
          rw [List.getElem_append_right (Nat.le_refl _)]
          simp only [Nat.sub_self, List.getElem_cons_zero]
          exact ⟨b, off, ha, i1, by rw [e1]; exact c0⟩
    obtain ⟨l, e1, e3⟩ := all len (Nat.le_refl _)
    have hbk : len ≤ Rows.uptoBulk y.1 := by
      rw [hx]
      have h1 := bulkE_len (elems.map (·.1))
      rw [List.length_map] at h1
      simp only [Rows.uptoBulk]
      omega
    subst e1
    refine ⟨_, l, rfl, ⟨some a, cap, rfl, hl, hm, fun h0 => ?_⟩, hbk⟩
    obtain ⟨b, off, rfl⟩ := spot0 h0
    refine ⟨b, off, rfl, ?_, fun i hi => ?_⟩
    · obtain ⟨g, o, e, -, c0⟩ := e3 0 h0
      injection e with e4
      subst e4
      exact World.block_lt_of_cell? W _ c0
    · obtain ⟨g, o, e, i1, c0⟩ := e3 i hi
      injection e with e4 e5
      subst e4 e5
      exact ⟨i1, c0⟩
theorem rt_bulkZ {m : Nat} {cs : List Value} {y : DataW H × List MemPlace} (h : DataW.trod enc Tryz.prog W 0 (fun _ => true) true m 45 cs = some y) : ∃ (r : Rt) (vc : Value), I6 r.pa ∧ I6 r.lo ∧ cs[0]? = some (.string r.name) ∧ cs[1]? = some (.int .i64 r.pa) ∧ cs[2]? = some (.int .i64 r.lo) ∧ cs[3]? = some vc ∧ Il (Qw W) W vc r.code ∧ NilOr vc ∧ RtZ (Rows.uptoBulk y.1) r := by
  have cS : Tryz.prog.cellsOf 9 = 1 := by kernel_rfl
  have cI : Tryz.prog.cellsOf 3 = 1 := by kernel_rfl
  have cC : Tryz.prog.cellsOf 43 = 1 := by kernel_rfl
  obtain ⟨y0, y1, y2, y3, n, hy, -, f0, f1, f2, f3⟩ := Joins.trod_struct4 Tryz.underlying45 h
  obtain ⟨s, s1, -, s3⟩ := DataW.trod_string Tryz.underlying9 f0
  obtain ⟨u, u1, -, u3⟩ := DataW.trod_int Tryz.underlying3 f1
  obtain ⟨v, v1, -, v3⟩ := DataW.trod_int Tryz.underlying3 f2
  obtain ⟨vc, l, c1, c2, c3⟩ := code_cells f3
  have hlb : l.length ≤ Rows.uptoBulk y.1 := by
    obtain ⟨a, len, cap, q1, q2⟩ := codeE_bulk f3
    obtain ⟨a9, c9, q3, -⟩ := c2.at
    rw [c1, q3] at q1
    injection q1 with q4 _
    injection q4 with _ q6 _
    rw [hy]
    simp only [Rows.uptoBulk, Rows.uptoBulkAll]
    omega
  refine ⟨⟨s, u, v, l⟩, vc, i6_wf u3, i6_wf v3, ?_, ?_, ?_, ?_, c2, c3, by unfold maxLen at s3; exact ⟨by show s.size ≤ _; omega, hlb⟩⟩
  · have hd : (cs.drop 0).take (Tryz.prog.cellsOf 9) = [.string s] := s1
    rw [cS] at hd
    have h2 := congrArg (fun l => l[0]?) hd
    simpa [List.getElem?_take, List.getElem?_drop] using h2
  · have hd : (cs.drop 1).take (Tryz.prog.cellsOf 3) = [.int .i64 u] := u1
    rw [cI] at hd
    have h2 := congrArg (fun l => l[0]?) hd
    simpa [List.getElem?_take, List.getElem?_drop] using h2
  · have hd : (cs.drop 2).take (Tryz.prog.cellsOf 3) = [.int .i64 v] := v1
    rw [cI] at hd
    have h2 := congrArg (fun l => l[0]?) hd
    simpa [List.getElem?_take, List.getElem?_drop] using h2
  · have hd : (cs.drop 3).take (Tryz.prog.cellsOf 43) = [vc] := c1
    rw [cC] at hd
    have h2 := congrArg (fun l => l[0]?) hd
    simpa [List.getElem?_take, List.getElem?_drop] using h2
theorem rts_bulkZ {m : Nat} {cs : List Value} {y : DataW H × List MemPlace} (h : DataW.trod enc Tryz.prog W 0 (fun _ => true) true m 25 cs = some y) : ∃ v l, cs = [v] ∧ Rts (Qw W) W v l ∧ l.length ≤ Rows.uptoBulk y.1 ∧ ∀ r ∈ l, RtZ (Rows.uptoBulk y.1) r := by
  rcases DataW.trod_slice Tryz.underlying25 h with ⟨rfl, _⟩ | ⟨a, len, cap, elems, rest, n, _, rfl, hx, _, hl, hm, hlen, hel, _, _⟩
  · exact ⟨_, [], rfl, ⟨none, 0, rfl, Nat.le_refl _, Nat.zero_le _, fun h => absurd h (by simp)⟩, Nat.zero_le _, fun s hs => absurd hs (by simp)⟩
  · have hc2 : Tryz.prog.cellsOf 45 = 4 := by kernel_rfl
    have hbk : len ≤ Rows.uptoBulk y.1 := by
      rw [hx]
      have h1 := bulkE_len (elems.map (·.1))
      rw [List.length_map] at h1
      simp only [Rows.uptoBulk]
      omega
    have hmem : ∀ i (hi : i < len), Rows.uptoBulk (elems[i]'(by omega)).1 ≤ Rows.uptoBulk y.1 := fun i hi => by
      have h1 := bulk_mem (x := (elems[i]'(by omega)).1) (l := elems.map (·.1)) (List.mem_map.2 ⟨_, List.getElem_mem (by omega), rfl⟩)
      rw [hx]
      simp only [Rows.uptoBulk]
      omega
    have spot0 : 0 < len → ∃ b off, a = ⟨b, off, none⟩ := fun hp => by
      have h1 := hel 0 hp
      rw [List.getElem?_eq_getElem (by omega), hc2, Option.bind_eq_some_iff] at h1
      obtain ⟨cs', hcs', ht'⟩ := h1
      obtain ⟨i, vc, -, -, k0, -⟩ := rt_bulkZ ht'
      obtain ⟨_, _, hcell⟩ := World.cells?_some hcs'
      have q0 := (hcell 0 (by omega)).trans k0
      obtain ⟨b, off, spot⟩ := a
      have hspot : spot = none := by simpa [Addr.add] using World.cell?_spot q0
      subst hspot
      exact ⟨b, off, rfl⟩
    have one : ∀ i, i < len → ∃ (k : Rt) (b off : Nat), a = ⟨b, off, none⟩ ∧ I6 k.pa ∧ I6 k.lo ∧ ∃ vc, W.cell? ⟨b, off + i * 4, none⟩ = some (.string k.name) ∧ W.cell? ⟨b, off + i * 4 + 1, none⟩ = some (.int .i64 k.pa) ∧ W.cell? ⟨b, off + i * 4 + 2, none⟩ = some (.int .i64 k.lo) ∧ W.cell? ⟨b, off + i * 4 + 3, none⟩ = some vc ∧ Il (Qw W) W vc k.code ∧ RtZ (Rows.uptoBulk y.1) k := fun i hi => by
      have h1 := hel i hi
      rw [List.getElem?_eq_getElem (by omega), hc2, Option.bind_eq_some_iff] at h1
      obtain ⟨cs', hcs', ht'⟩ := h1
      obtain ⟨x, vc, i1, i2, k0, k1, k2, k3, hil, -, nz⟩ := rt_bulkZ ht'
      obtain ⟨_, _, hcell⟩ := World.cells?_some hcs'
      have q0 := (hcell 0 (by omega)).trans k0
      have q1 := (hcell 1 (by omega)).trans k1
      have q2 := (hcell 2 (by omega)).trans k2
      have q3 := (hcell 3 (by omega)).trans k3
      obtain ⟨b, off, rfl⟩ := spot0 (by omega)
      rw [Go.WideShapes.add_plain, Go.WideShapes.add_plain] at q0 q1 q2 q3
      exact ⟨x, b, off, rfl, i1, i2, vc, q0, q1, q2, q3, hil, nz.mono (hmem i hi)⟩
    have all : ∀ k, k ≤ len → ∃ ks : List Rt, ks.length = k ∧ ∀ i (hi : i < ks.length), ∃ g o, a = ⟨g, o, none⟩ ∧ I6 ks[i].pa ∧ I6 ks[i].lo ∧ ∃ vc, W.cell? ⟨g, o + i * 4, none⟩ = some (.string ks[i].name) ∧ W.cell? ⟨g, o + i * 4 + 1, none⟩ = some (.int .i64 ks[i].pa) ∧ W.cell? ⟨g, o + i * 4 + 2, none⟩ = some (.int .i64 ks[i].lo) ∧ W.cell? ⟨g, o + i * 4 + 3, none⟩ = some vc ∧ Il (Qw W) W vc ks[i].code ∧ RtZ (Rows.uptoBulk y.1) ks[i] := by
      intro k
      induction k with
      | zero => exact fun _ => ⟨[], rfl, fun j hj => absurd hj (by simp)⟩
      | succ k ih =>
        intro hk
        obtain ⟨l, e1, e3⟩ := ih (by omega)
        obtain ⟨x, b, off, ha, i1, i2, vc, c0, c1, c2, c3, hil, nz⟩ := one k (by omega)
        refine ⟨l ++ [x], by simp [e1], fun j hj => ?_⟩
        by_cases c : j < l.length
        · rw [List.getElem_append_left c]
          exact e3 j c
        · have hje : j = l.length := by simp at hj; omega
          subst hje
          rw [List.getElem_append_right (Nat.le_refl _)]
          simp only [Nat.sub_self, List.getElem_cons_zero]
          exact ⟨b, off, ha, i1, i2, vc, by rw [e1]; exact c0, by rw [e1]; exact c1, by rw [e1]; exact c2, by rw [e1]; exact c3, hil, nz⟩
    obtain ⟨l, e1, e3⟩ := all len (Nat.le_refl _)
    subst e1
    refine ⟨_, l, rfl, ⟨some a, cap, rfl, hl, hm, fun h0 => ?_⟩, hbk, fun r hr => by
      obtain ⟨i, hi, rfl⟩ := List.mem_iff_getElem.1 hr
      obtain ⟨g, o, -, -, -, vc, -, -, -, -, -, h⟩ := e3 i hi
      exact h⟩
    obtain ⟨b, off, rfl⟩ := spot0 h0
    refine ⟨b, off, rfl, ?_, fun i hi => ?_⟩
    · obtain ⟨g, o, e, -, -, vc, c0, -⟩ := e3 0 h0
      injection e with e4
      subst e4
      exact World.block_lt_of_cell? W _ c0
    · obtain ⟨g, o, e, i1, i2, vc, c0, c1, c2, c3, c4, -⟩ := e3 i hi
      injection e with e4 e5
      subst e4 e5
      exact ⟨i1, i2, vc, c0, c1, c2, c3, c4⟩
theorem trod_struct5b {P : Program} {w : World} {base : Nat} {spare : TypeId → Bool} {held : Bool} {t : TypeId} {f0 f1 f2 f3 f4 : Field} {fuel : Nat} {cs : List Value} {x : DataW H × List MemPlace} (ht : P.underlying t = some (.struct #[f0, f1, f2, f3, f4])) (h : DataW.trod enc P w base spare held fuel t cs = some x) :
    ∃ y0 y1 y2 y3 y4 n, x.1 = .agg [y0.1, y1.1, y2.1, y3.1, y4.1] ∧ DataW.trod enc P w base spare held n f0.type ((cs.drop f0.offset).take (P.cellsOf f0.type)) = some y0 ∧ DataW.trod enc P w base spare held n f1.type ((cs.drop f1.offset).take (P.cellsOf f1.type)) = some y1 ∧ DataW.trod enc P w base spare held n f2.type ((cs.drop f2.offset).take (P.cellsOf f2.type)) = some y2 ∧ DataW.trod enc P w base spare held n f3.type ((cs.drop f3.offset).take (P.cellsOf f3.type)) = some y3 ∧ DataW.trod enc P w base spare held n f4.type ((cs.drop f4.offset).take (P.cellsOf f4.type)) = some y4 := by
  obtain ⟨xs, n, _, rfl, hl, hlen, hf⟩ := DataW.trod_struct ht h
  match xs, hlen with
  | [y0, y1, y2, y3, y4], _ => exact ⟨y0, y1, y2, y3, y4, n, by simp, by simpa using hf 0 f0 rfl, by simpa using hf 1 f1 rfl, by simpa using hf 2 f2 rfl, by simpa using hf 3 f3 rfl, by simpa using hf 4 f4 rfl⟩
theorem sy_bulk {m : Nat} {cs : List Value} {y : DataW H × List MemPlace} (h : DataW.trod enc Tryz.prog W 0 (fun _ => true) true m 47 cs = some y) : ∃ (s : Sy) (v1 v2 v3 v4 vc : Value), I6 s.run.pa ∧ I6 s.run.lo ∧ cs[0]? = some v1 ∧ cs[1]? = some v2 ∧ cs[2]? = some v3 ∧ cs[3]? = some v4 ∧ cs[4]? = some (.string s.run.name) ∧ cs[5]? = some (.int .i64 s.run.pa) ∧ cs[6]? = some (.int .i64 s.run.lo) ∧ cs[7]? = some vc ∧ Nl (Qw W) W v1 s.wi ∧ Nl (Qw W) W v2 s.wo ∧ Nl (Qw W) W v3 s.re ∧ Nl (Qw W) W v4 s.wr ∧ Il (Qw W) W vc s.run.code ∧ SyZ (Rows.uptoBulk y.1) s := by
  have cN : Tryz.prog.cellsOf 42 = 1 := by kernel_rfl
  have cR : Tryz.prog.cellsOf 45 = 4 := by kernel_rfl
  obtain ⟨y0, y1, y2, y3, y4, n, hy, f0, f1, f2, f3, f4⟩ := trod_struct5b Tryz.underlying47 h
  obtain ⟨v1, l1, a1, b1, z1⟩ := nums_bulk f0
  obtain ⟨v2, l2, a2, b2, z2⟩ := nums_bulk f1
  obtain ⟨v3, l3, a3, b3, z3⟩ := nums_bulk f2
  obtain ⟨v4, l4, a4, b4, z4⟩ := nums_bulk f3
  obtain ⟨r, vc, i1, i2, c0, c1, c2, c3, hc, -, zr⟩ := rt_bulkZ f4
  dsimp only at a1 a2 a3 a4 c0 c1 c2 c3
  rw [cN] at a1 a2 a3 a4
  rw [cR] at c0 c1 c2 c3
  have hz : SyZ (Rows.uptoBulk y.1) ⟨l1, l2, l3, l4, r⟩ := by
    rw [hy]
    obtain ⟨q1, q2⟩ := zr
    refine ⟨q1, ?_, ?_, ?_, ?_, ?_⟩ <;> simp only [Rows.uptoBulk, Rows.uptoBulkAll] <;> omega
  exact ⟨⟨l1, l2, l3, l4, r⟩, v1, v2, v3, v4, vc, i1, i2, take1 a1, take1 a2, take1 a3, take1 a4, take4 (by omega) c0, take4 (by omega) c1, take4 (by omega) c2, take4 (by omega) c3, b1, b2, b3, b4, hc, hz⟩
theorem syss_bulk {m : Nat} {cs : List Value} {y : DataW H × List MemPlace} (h : DataW.trod enc Tryz.prog W 0 (fun _ => true) true m 24 cs = some y) : ∃ v l, cs = [v] ∧ Sys (Qw W) W v l ∧ l.length ≤ Rows.uptoBulk y.1 ∧ ∀ s ∈ l, SyZ (Rows.uptoBulk y.1) s := by
  rcases DataW.trod_slice Tryz.underlying24 h with ⟨rfl, _⟩ | ⟨a, len, cap, elems, rest, n, _, rfl, hx, _, hl, hm, hlen, hel, _, _⟩
  · exact ⟨_, [], rfl, ⟨none, 0, rfl, Nat.le_refl _, Nat.zero_le _, fun h => absurd h (by simp)⟩, Nat.zero_le _, fun s hs => absurd hs (by simp)⟩
  · have hc2 : Tryz.prog.cellsOf 47 = 8 := by kernel_rfl
    have hbk : len ≤ Rows.uptoBulk y.1 := by
      rw [hx]
      have h1 := bulkE_len (elems.map (·.1))
      rw [List.length_map] at h1
      simp only [Rows.uptoBulk]
      omega
    have hmem : ∀ i (hi : i < len), Rows.uptoBulk (elems[i]'(by omega)).1 ≤ Rows.uptoBulk y.1 := fun i hi => by
      have h1 := bulk_mem (x := (elems[i]'(by omega)).1) (l := elems.map (·.1)) (List.mem_map.2 ⟨_, List.getElem_mem (by omega), rfl⟩)
      rw [hx]
      simp only [Rows.uptoBulk]
      omega
    have spot0 : 0 < len → ∃ b off, a = ⟨b, off, none⟩ := fun hp => by
      have h1 := hel 0 hp
      rw [List.getElem?_eq_getElem (by omega), hc2, Option.bind_eq_some_iff] at h1
      obtain ⟨cs', hcs', ht'⟩ := h1
      obtain ⟨i, v1, v2, v3, v4, vc, -, -, k0, -⟩ := sy_bulk ht'
      obtain ⟨_, _, hcell⟩ := World.cells?_some hcs'
      have q0 := (hcell 0 (by omega)).trans k0
      obtain ⟨b, off, spot⟩ := a
      have hspot : spot = none := by simpa [Addr.add] using World.cell?_spot q0
      subst hspot
      exact ⟨b, off, rfl⟩
    have one : ∀ i, i < len → ∃ (k : Sy) (b off : Nat), a = ⟨b, off, none⟩ ∧ SyAt (Qw W) W b (off + i * 8) k ∧ SyZ (Rows.uptoBulk y.1) k := fun i hi => by
      have h1 := hel i hi
      rw [List.getElem?_eq_getElem (by omega), hc2, Option.bind_eq_some_iff] at h1
      obtain ⟨cs', hcs', ht'⟩ := h1
      obtain ⟨x, v1, v2, v3, v4, vc, i1, i2, k0, k1, k2, k3, k4, k5, k6, k7, n1, n2, n3, n4, n5, nz⟩ := sy_bulk ht'
      obtain ⟨_, _, hcell⟩ := World.cells?_some hcs'
      obtain ⟨b, off, rfl⟩ := spot0 (by omega)
      have q := fun j (hj : j < 8) v (hv : cs'[j]? = some v) => (show W.cell? ⟨b, off + i * 8 + j, none⟩ = some v by
        have := (hcell j hj).trans hv
        rwa [Go.WideShapes.add_plain, Go.WideShapes.add_plain] at this)
      exact ⟨x, b, off, rfl, ⟨i1, i2, v1, v2, v3, v4, vc, q 0 (by omega) _ k0, q 1 (by omega) _ k1, q 2 (by omega) _ k2, q 3 (by omega) _ k3, q 4 (by omega) _ k4, q 5 (by omega) _ k5, q 6 (by omega) _ k6, q 7 (by omega) _ k7, n1, n2, n3, n4, n5⟩, nz.mono (hmem i hi)⟩
    have all : ∀ k, k ≤ len → ∃ ks : List Sy, ks.length = k ∧ ∀ i (hi : i < ks.length), (∃ g o, a = ⟨g, o, none⟩ ∧ SyAt (Qw W) W g (o + i * 8) ks[i]) ∧ SyZ (Rows.uptoBulk y.1) ks[i] := by
      intro k
      induction k with
      | zero => exact fun _ => ⟨[], rfl, fun j hj => absurd hj (by simp)⟩
      | succ k ih =>
        intro hk
        obtain ⟨l, e1, e3⟩ := ih (by omega)
        obtain ⟨x, b, off, ha, c0, cz⟩ := one k (by omega)
        refine ⟨l ++ [x], by simp [e1], fun j hj => ?_⟩
        by_cases c : j < l.length
        · rw [List.getElem_append_left c]
          exact e3 j c
        · have hje : j = l.length := by simp at hj; omega
          subst hje
          rw [List.getElem_append_right (Nat.le_refl _)]
          simp only [Nat.sub_self, List.getElem_cons_zero]
          exact ⟨⟨b, off, ha, by rw [e1]; exact c0⟩, cz⟩
    obtain ⟨l, e1, e3⟩ := all len (Nat.le_refl _)
    subst e1
    refine ⟨_, l, rfl, ⟨some a, cap, rfl, hl, hm, fun h0 => ?_⟩, hbk, fun s hs => by
      obtain ⟨i, hi, rfl⟩ := List.mem_iff_getElem.1 hs
      exact (e3 i hi).2⟩
    obtain ⟨b, off, rfl⟩ := spot0 h0
    refine ⟨b, off, rfl, ?_, fun i hi => ?_⟩
    · obtain ⟨g, o, e, -, -, v1, v2, v3, v4, vc, c0, -⟩ := (e3 0 h0).1
      injection e with e4
      subst e4
      exact World.block_lt_of_cell? W _ c0
    · obtain ⟨g, o, e, c0⟩ := (e3 i hi).1
      injection e with e4 e5
      subst e4 e5
      exact c0
end
end Go.Proofs.YtpolajoephjdhaaGreatDoor
