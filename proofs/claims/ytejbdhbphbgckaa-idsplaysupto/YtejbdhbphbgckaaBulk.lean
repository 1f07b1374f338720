/-
  What is of bulk at most 1,048,576, opened: numbers, and a script.
-/
import Derived.Test.YtejbdhbphbgckaaRows
import Derived.Test.YtejbdhbphbgckaaPlMade
import Derived.ProofKit
import Derived.OpenShut
import Derived.ShutString
import Derived.ChangeOld
import Derived.SizedLaws
import Derived.JoinedCond
import Derived.Deep.CondSized
namespace Go.Proofs.Ytejbdhbphbgckaa
open Go.ChangeShapes Go.WideShapes Go.ChangeAt Go.RowKit
theorem own : ownKnob Try.prog.godebug = none := by kernel_rfl
theorem laidOut : laidOutB Try.prog = true := by kernel_rfl
theorem ints_of {W : World} {x : Addr} {len cap : Nat} {zs : List Int} (hl : len ≤ cap) (hm : cap ≤ maxLen) (hz : zs.length = cap) (hc : ∀ i, i < zs.length → W.cell? (x.add i) = some (.int .i64 (zs.getD i 0))) (hw : ∀ n ∈ zs, (Lit.int .i64 n).wf = true) :
    ∃ l : List Int, l.length = len ∧ Is W (.slice (some x) len cap) l ∧ ∀ n ∈ l, -9223372036854775808 ≤ n ∧ n ≤ 9223372036854775807 := by
  refine ⟨zs.take len, by simp; omega, ⟨some x, cap, by simp; omega, by simp; omega, hm, fun j hj => ?_⟩, fun n hn => ?_⟩
  · simp at hj
    obtain ⟨b, o, rfl, hc'⟩ := ints_at hc (by omega)
    refine ⟨b, o, rfl, ?_⟩
    rw [hc' j (by omega), List.getElem_take, List.getD_eq_getElem?_getD, List.getElem?_eq_getElem (by omega)]
    rfl
  · have := hw n (List.mem_of_mem_take hn)
    simp [Lit.wf, IntKind.min, IntKind.max, IntKind.signed, IntKind.bits] at this
    exact this
theorem len_le {H : Type} (l : List (DataW H)) : l.length ≤ Rows.uptoBulkAll l := by
  induction l with
  | nil => simp [Rows.uptoBulkAll]
  | cons x r ih =>
    have : 1 ≤ Rows.uptoBulk x := by
      cases x with
      | lit l => cases l <;> simp [Rows.uptoBulk]
      | nil => simp [Rows.uptoBulk]
      | ptr d => simp [Rows.uptoBulk]
      | slice elems spare => simp [Rows.uptoBulk]
      | agg parts => simp [Rows.uptoBulk]
      | iface t d => simp [Rows.uptoBulk]
      | map entries => simp [Rows.uptoBulk]
      | held h => simp [Rows.uptoBulk]
    simp only [Rows.uptoBulkAll, List.length_cons]
    omega
theorem part_le {H : Type} {d : DataW H} {l : List (DataW H)} (h : d ∈ l) : Rows.uptoBulk d ≤ Rows.uptoBulkAll l := by
  induction l with
  | nil => cases h
  | cons x r ih =>
    simp only [Rows.uptoBulkAll]
    cases List.mem_cons.1 h with
    | inl e => subst e; omega
    | inr e => have := ih e; omega
theorem ints_bulk {H : Type} {enc : TypeId × Value → H} {W : World} {fuel : Nat} {cs : List Value} {x : DataW H × List MemPlace} (hf : DataW.trod enc Try.prog W 0 (fun _ => true) true fuel 33 cs = some x) (hd : Rows.uptoBulk x.1 ≤ 1048576) :
    ∃ ua un uc l, cs = [.slice ua un uc] ∧ Is W (.slice ua un uc) l ∧ l.length ≤ 1048576 := by
  rcases open_ints Try.underlying33 Try.underlying3 (by kernel_rfl) hf with ⟨hcs, _⟩ | ⟨a, l, c, zs, hcs, _, hl, hm, hz, hx, hcell, hwz⟩
  · exact ⟨_, _, _, [], hcs, ⟨none, 0, rfl, Nat.le_refl _, Nat.zero_le _, fun j hj => absurd hj (by simp)⟩, by simp⟩
  · have hz' : zs.length = c := by simpa using hz
    obtain ⟨l0, hl0, hb0, -⟩ := ints_of hl hm hz' hcell hwz
    refine ⟨_, _, _, l0, hcs, hb0, ?_⟩
    rw [hx] at hd
    have := len_le (H := H) (lits .i64 (zs.take l))
    simp only [Rows.uptoBulk] at hd
    simp only [lits, List.length_map, List.length_take] at this hd
    omega
theorem int_at {H : Type} {enc : TypeId × Value → H} {W : World} {m j : Nat} {cs : List Value} {y : DataW H × List MemPlace} (h : DataW.trod enc Try.prog W 0 (fun _ => true) true m 3 ((cs.drop j).take (Try.prog.cellsOf 3)) = some y) : ∃ n : Int, cs[j]? = some (.int .i64 n) ∧ -9223372036854775808 ≤ n ∧ n ≤ 9223372036854775807 := by
  have hc1 : Try.prog.cellsOf 3 = 1 := by kernel_rfl
  rw [hc1] at h
  obtain ⟨n, hn, _, hw⟩ := DataW.trod_int Try.underlying3 h
  refine ⟨n, ?_, ?_⟩
  · have h2 := congrArg (fun l => l[0]?) hn
    simpa [List.getElem?_take, List.getElem?_drop] using h2
  · simp [Lit.wf, IntKind.min, IntKind.max, IntKind.signed, IntKind.bits] at hw
    exact hw
theorem ent_at {H : Type} {enc : TypeId × Value → H} {W : World} {m j : Nat} {cs : List Value} {y : DataW H × List MemPlace} (h : DataW.trod enc Try.prog W 0 (fun _ => true) true m 41 ((cs.drop j).take (Try.prog.cellsOf 41)) = some y) : ∃ a b : Int, cs[j]? = some (.int .i64 a) ∧ cs[j + 1]? = some (.int .i64 b) := by
  have hc1 : Try.prog.cellsOf 41 = 2 := by kernel_rfl
  rw [hc1] at h
  obtain ⟨xs, m', _, hx, _, hxl, hfs⟩ := DataW.trod_struct Try.underlying41 h
  have hxl2 : xs.length = 2 := hxl
  have g0 := hfs 0 _ rfl
  have g1 := hfs 1 _ rfl
  rw [List.getElem?_eq_getElem (by omega)] at g0 g1
  obtain ⟨a, k0, _⟩ := int_at g0
  obtain ⟨b, k1, _⟩ := int_at g1
  refine ⟨a, b, ?_, ?_⟩
  · simpa [List.getElem?_take, List.getElem?_drop] using k0
  · simpa [List.getElem?_take, List.getElem?_drop] using k1
theorem op_cells {H : Type} {enc : TypeId × Value → H} {W : World} {fuel : Nat} {cs : List Value} {x : DataW H × List MemPlace} (hf : DataW.trod enc Try.prog W 0 (fun _ => true) true fuel 43 cs = some x) (hd : Rows.uptoBulk x.1 ≤ 1048576) :
    ∃ (kd nn a ei eg : Int) (ag af : Option Addr) (ng cg nf cf : Nat) (GL FL : List Int), (cs[0]? = some (.int .i64 kd) ∧ cs[1]? = some (.int .i64 nn) ∧ cs[2]? = some (.int .i64 a) ∧ cs[3]? = some (.int .i64 ei) ∧ cs[4]? = some (.int .i64 eg) ∧ cs[5]? = some (.slice ag ng cg) ∧ cs[6]? = some (.slice af nf cf)) ∧ (-9223372036854775808 ≤ nn ∧ nn ≤ 9223372036854775807) ∧ (-9223372036854775808 ≤ a ∧ a ≤ 9223372036854775807) ∧ Is W (.slice ag ng cg) GL ∧ Is W (.slice af nf cf) FL ∧ GL.length ≤ 1000000000 ∧ FL.length ≤ 1000000000 := by
  obtain ⟨xs, m, _, hx, _, hxl, hfs⟩ := DataW.trod_struct Try.underlying43 hf
  have hxl6 : xs.length = 6 := hxl
  have g0 := hfs 0 _ rfl
  have g1 := hfs 1 _ rfl
  have g2 := hfs 2 _ rfl
  have g3 := hfs 3 _ rfl
  have g4 := hfs 4 _ rfl
  have g5 := hfs 5 _ rfl
  rw [List.getElem?_eq_getElem (by omega)] at g0 g1 g2 g3 g4 g5
  obtain ⟨kd, k0, _⟩ := int_at g0
  obtain ⟨nn, k1, hn⟩ := int_at g1
  obtain ⟨a, k2, ha⟩ := int_at g2
  obtain ⟨ei, eg, k3, k4⟩ := ent_at g3
  have hb : ∀ i (h : i < 6), Rows.uptoBulk (xs[i]'(by omega)).1 ≤ 1048576 := fun i h => by
    rw [hx] at hd
    have := part_le (H := H) (d := (xs[i]'(by omega)).1) (l := xs.map (·.1)) (List.mem_map.2 ⟨_, List.getElem_mem _, rfl⟩)
    simp only [Rows.uptoBulk] at hd
    omega
  obtain ⟨ag, ng, cg, GL, hcg, hGL, hG⟩ := ints_bulk g4 (hb 4 (by omega))
  obtain ⟨af, nf, cf, FL, hcf, hFL, hF⟩ := ints_bulk g5 (hb 5 (by omega))
  have hc1 : Try.prog.cellsOf 33 = 1 := by kernel_rfl
  have h5 := congrArg (fun l => l[0]?) hcg
  have h6 := congrArg (fun l => l[0]?) hcf
  exact ⟨kd, nn, a, ei, eg, ag, af, ng, cg, nf, cf, GL, FL, ⟨k0, k1, k2, k3, k4, by simpa [hc1, List.getElem?_take, List.getElem?_drop] using h5, by simpa [hc1, List.getElem?_take, List.getElem?_drop] using h6⟩, hn, ha, hGL, hFL, by omega, by omega⟩
theorem script_arg {H : Type} {enc : TypeId × Value → H} {W : World} {a0 : Option Addr} {len0 cap0 : Nat} {d0 : DataW H} {p0 : List MemPlace} (h0 : DataW.Trod enc Try.prog W 0 (fun _ => true) true 22 (.slice a0 len0 cap0) d0 p0) (hd : Rows.uptoBulk d0 ≤ 1048576) : Sc W (.slice a0 len0 cap0) len0 := by
  obtain ⟨fuel, hf⟩ := h0
  rcases DataW.trod_slice Try.underlying22 hf with ⟨hcs, _⟩ | ⟨a, len, cap, elems, rest, n, _, hcs, hx, _, hl, hm, hlen, hel, _, _⟩
  · simp [Value.cells] at hcs
    obtain ⟨rfl, rfl, rfl⟩ := hcs
    exact ⟨none, 0, rfl, Nat.le_refl _, Nat.zero_le _, fun i hi => absurd hi (by simp)⟩
  · simp [Value.cells] at hcs
    obtain ⟨rfl, rfl, rfl⟩ := hcs
    have hc7 : Try.prog.cellsOf 43 = 7 := by kernel_rfl
    simp only [Prod.mk.injEq] at hx
    have hde : ∀ i (h : i < len0), Rows.uptoBulk (elems[i]'(by omega)).1 ≤ 1048576 := fun i h => by
      rw [hx.1] at hd
      have := part_le (H := H) (d := (elems[i]'(by omega)).1) (l := elems.map (·.1)) (List.mem_map.2 ⟨_, List.getElem_mem _, rfl⟩)
      simp only [Rows.uptoBulk] at hd
      omega
    have spot0 : 0 < len0 → ∃ b off, a = ⟨b, off, none⟩ := fun hp => by
      have h1 := hel 0 hp
      rw [List.getElem?_eq_getElem (by omega), hc7, Option.bind_eq_some_iff] at h1
      obtain ⟨cs', hcs', ht'⟩ := h1
      obtain ⟨kd, nn, b, ei, eg, ag, af, ng, cg, nf, cf, GL, FL, ⟨k0, -⟩, -⟩ := op_cells ht' (hde 0 hp)
      obtain ⟨_, _, hcell⟩ := World.cells?_some hcs'
      have q0 := (hcell 0 (by omega)).trans k0
      obtain ⟨b, off, spot⟩ := a
      have hspot : spot = none := by simpa [Addr.add] using World.cell?_spot q0
      subst hspot
      exact ⟨b, off, rfl⟩
    refine ⟨some a, cap0, rfl, hl, hm, fun i hi => ?_⟩
    have h1 := hel i hi
    rw [List.getElem?_eq_getElem (by omega), hc7, Option.bind_eq_some_iff] at h1
    obtain ⟨cs', hcs', ht'⟩ := h1
    obtain ⟨kd, nn, b, ei, eg, ag, af, ng, cg, nf, cf, GL, FL, ⟨k0, k1, k2, k3, k4, k5, k6⟩, hr⟩ := op_cells ht' (hde i hi)
    obtain ⟨_, _, hcell⟩ := World.cells?_some hcs'
    have q0 := (hcell 0 (by omega)).trans k0
    have q1 := (hcell 1 (by omega)).trans k1
    have q2 := (hcell 2 (by omega)).trans k2
    have q3 := (hcell 3 (by omega)).trans k3
    have q4 := (hcell 4 (by omega)).trans k4
    have q5 := (hcell 5 (by omega)).trans k5
    have q6 := (hcell 6 (by omega)).trans k6
    obtain ⟨blk, off, rfl⟩ := spot0 (by omega)
    rw [Go.WideShapes.add_plain, Go.WideShapes.add_plain] at q0 q1 q2 q3 q4 q5 q6
    exact ⟨blk, off, rfl, kd, nn, b, ei, eg, ag, af, ng, cg, nf, cf, GL, FL, ⟨q0, q1, q2, q3, q4, q5, q6⟩, hr⟩
end Go.Proofs.Ytejbdhbphbgckaa
