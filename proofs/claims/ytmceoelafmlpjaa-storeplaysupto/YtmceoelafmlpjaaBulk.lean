/-
  What is of bulk at most 1,048,576, opened: bytes, and a script.
-/
import Derived.Test.YtmceoelafmlpjaaOpen
import Derived.Test.YtmceoelafmlpjaaPlays
namespace Go.Proofs.Ytmceoelafmlpjaa
open Go.ChangeShapes Go.WideShapes Go.ChangeAt Go.RowKit

theorem len_le {H : Type} (l : List (DataW H)) : l.length ≤ Rows.uptoBulkAll l := by
  induction l with
  | nil => simp [Rows.uptoBulkAll]
  | cons x r ih =>
    have : 1 ≤ Rows.uptoBulk x := by
      cases x with
      | lit l => cases l <;> simp [Rows.uptoBulk]
      | nil => simp [Rows.uptoBulk]
      | ptr d => simp [Rows.uptoBulk]
      | slice elems spare => simp [Rows.uptoBulk]
      | agg parts => simp [Rows.uptoBulk]
      | iface t d => simp [Rows.uptoBulk]
      | map entries => simp [Rows.uptoBulk]
      | held h => simp [Rows.uptoBulk]
    simp only [Rows.uptoBulkAll, List.length_cons]
    omega
theorem part_le {H : Type} {d : DataW H} {l : List (DataW H)} (h : d ∈ l) : Rows.uptoBulk d ≤ Rows.uptoBulkAll l := by
  induction l with
  | nil => cases h
  | cons x r ih =>
    simp only [Rows.uptoBulkAll]
    cases List.mem_cons.1 h with
    | inl e => subst e; omega
    | inr e => have := ih e; omega
theorem bytes_bulk {H : Type} {enc : TypeId × Value → H} {W : World} {fuel : Nat} {cs : List Value} {x : DataW H × List MemPlace} (hf : DataW.trod enc Try.prog W 0 (fun _ => true) true fuel 22 cs = some x) (hd : Rows.uptoBulk x.1 ≤ 1048576) :
    ∃ ua uc l, cs = [.slice ua l.length uc] ∧ Bs W (.slice ua l.length uc) l ∧ NilOr (.slice ua l.length uc) ∧ l.length ≤ 1048576 := by
  rcases open_ints Try.underlying22 Try.underlying5 (by kernel_rfl) hf with ⟨hcs, _⟩ | ⟨a, l, c, zs, hcs, _, hl, hm, hz, hx, hcell, hwz⟩
  · exact ⟨_, _, [], hcs, Bs.nil W, .inl rfl, by simp⟩
  · have hz' : zs.length = c := by simpa using hz
    obtain ⟨l0, hl0, hb0⟩ := bytes_of hl hm hz' hcell hwz
    subst hl0
    refine ⟨_, _, l0, hcs, hb0, .inr ⟨_, _, _, rfl⟩, ?_⟩
    rw [hx] at hd
    have := len_le (H := H) (lits .u8 (zs.take l0.length))
    simp only [Rows.uptoBulk] at hd
    simp only [lits, List.length_map, List.length_take] at this hd
    omega
theorem bytes_of_arg {H : Type} {enc : TypeId × Value → H} {W : World} {a0 : Option Addr} {len0 cap0 : Nat} {d0 : DataW H} {p0 : List MemPlace} (h0 : DataW.Trod enc Try.prog W 0 (fun _ => true) true 22 (.slice a0 len0 cap0) d0 p0) (hd : Rows.uptoBulk d0 ≤ 1048576) :
    ∃ l : List UInt8, Bs W (.slice a0 len0 cap0) l ∧ NilOr (.slice a0 len0 cap0) ∧ l.length ≤ 1048576 := by
  obtain ⟨fuel, hf⟩ := h0
  obtain ⟨ua, uc, l, hcs, hb, hn, hl⟩ := bytes_bulk hf hd
  simp [Value.cells] at hcs
  obtain ⟨rfl, rfl, rfl⟩ := hcs
  exact ⟨l, hb, hn, hl⟩
theorem int_at {H : Type} {enc : TypeId × Value → H} {W : World} {m j : Nat} {cs : List Value} {y : DataW H × List MemPlace} (h : DataW.trod enc Try.prog W 0 (fun _ => true) true m 3 ((cs.drop j).take (Try.prog.cellsOf 3)) = some y) : ∃ n : Int, cs[j]? = some (.int .i64 n) ∧ n ≤ 9223372036854775807 := by
  have hc1 : Try.prog.cellsOf 3 = 1 := by kernel_rfl
  rw [hc1] at h
  obtain ⟨n, hn, _, hw⟩ := DataW.trod_int Try.underlying3 h
  refine ⟨n, ?_, ?_⟩
  · have h2 := congrArg (fun l => l[0]?) hn
    simpa [List.getElem?_take, List.getElem?_drop] using h2
  · simp [Lit.wf, IntKind.min, IntKind.max, IntKind.signed, IntKind.bits] at hw
    exact hw.2
theorem op_cells {H : Type} {enc : TypeId × Value → H} {W : World} {fuel : Nat} {cs : List Value} {x : DataW H × List MemPlace} (hf : DataW.trod enc Try.prog W 0 (fun _ => true) true fuel 29 cs = some x) (hd : Rows.uptoBulk x.1 ≤ 1048576) :
    ∃ kd hh q ua uc l, (cs[0]? = some (.int .i64 kd) ∧ cs[1]? = some (.int .i64 hh) ∧ cs[2]? = some (.int .i64 q) ∧ cs[3]? = some (.slice ua l.length uc)) ∧ Bs W (.slice ua l.length uc) l ∧ NilOr (.slice ua l.length uc) ∧ l.length ≤ 1048576 ∧ q ≤ 9223372036854775807 := by
  obtain ⟨xs, m, _, hx, _, hxl, hfs⟩ := DataW.trod_struct Try.underlying29 hf
  have hxl4 : xs.length = 4 := hxl
  have g0 := hfs 0 _ rfl
  have g1 := hfs 1 _ rfl
  have g2 := hfs 2 _ rfl
  have g3 := hfs 3 _ rfl
  rw [List.getElem?_eq_getElem (by omega)] at g0 g1 g2 g3
  obtain ⟨kd, k0, _⟩ := int_at g0
  obtain ⟨hh, k1, _⟩ := int_at g1
  obtain ⟨q, k2, hq⟩ := int_at g2
  have hb : Rows.uptoBulk (xs[3]'(by omega)).1 ≤ 1048576 := by
    rw [hx] at hd
    have := part_le (H := H) (d := (xs[3]'(by omega)).1) (l := xs.map (·.1)) (List.mem_map.2 ⟨_, List.getElem_mem _, rfl⟩)
    simp only [Rows.uptoBulk] at hd
    omega
  obtain ⟨ua, uc, l, hcs, hbs, hn, hl⟩ := bytes_bulk g3 hb
  refine ⟨kd, hh, q, ua, uc, l, ⟨k0, k1, k2, ?_⟩, hbs, hn, hl, hq⟩
  have hc1 : Try.prog.cellsOf 22 = 1 := by kernel_rfl
  have h2 := congrArg (fun l => l[0]?) hcs
  simpa [hc1, List.getElem?_take, List.getElem?_drop] using h2
theorem script_arg {H : Type} {enc : TypeId × Value → H} {W : World} {a0 : Option Addr} {len0 cap0 : Nat} {d0 : DataW H} {p0 : List MemPlace} (h0 : DataW.Trod enc Try.prog W 0 (fun _ => true) true 23 (.slice a0 len0 cap0) d0 p0) (hd : Rows.uptoBulk d0 ≤ 1048576) :
    ∃ kd hh q ba bc b, Sc W (.slice a0 len0 cap0) len0 kd hh q ba bc b := by
  obtain ⟨fuel, hf⟩ := h0
  rcases DataW.trod_slice Try.underlying23 hf with ⟨hcs, _⟩ | ⟨a, len, cap, elems, rest, n, _, hcs, hx, _, hl, hm, hlen, hel, _, _⟩
  · simp [Value.cells] at hcs
    obtain ⟨rfl, rfl, rfl⟩ := hcs
    exact ⟨fun _ => 0, fun _ => 0, fun _ => 0, fun _ => none, fun _ => 0, fun _ => [], none, 0, rfl, Nat.le_refl _, Nat.zero_le _, fun i hi => absurd hi (by simp)⟩
  · simp [Value.cells] at hcs
    obtain ⟨rfl, rfl, rfl⟩ := hcs
    have hc4 : Try.prog.cellsOf 29 = 4 := by kernel_rfl
    simp only [Prod.mk.injEq] at hx
    have hde : ∀ i (h : i < len0), Rows.uptoBulk (elems[i]'(by omega)).1 ≤ 1048576 := fun i h => by
      rw [hx.1] at hd
      have := part_le (H := H) (d := (elems[i]'(by omega)).1) (l := elems.map (·.1)) (List.mem_map.2 ⟨_, List.getElem_mem _, rfl⟩)
      simp only [Rows.uptoBulk] at hd
      omega
    have each : ∀ i, i < len0 → ∃ y : (Int × Int × Int) × (Option Addr × Nat × List UInt8), (W.cell? ((a.add (i * 4)).add 0) = some (.int .i64 y.1.1) ∧ W.cell? ((a.add (i * 4)).add 1) = some (.int .i64 y.1.2.1) ∧ W.cell? ((a.add (i * 4)).add 2) = some (.int .i64 y.1.2.2) ∧ W.cell? ((a.add (i * 4)).add 3) = some (.slice y.2.1 y.2.2.2.length y.2.2.1)) ∧ Bs W (.slice y.2.1 y.2.2.2.length y.2.2.1) y.2.2.2 ∧ NilOr (.slice y.2.1 y.2.2.2.length y.2.2.1) ∧ y.2.2.2.length ≤ 1048576 ∧ y.1.2.2 ≤ 9223372036854775807 := fun i hi => by
      have h1 := hel i hi
      rw [List.getElem?_eq_getElem (by omega), hc4, Option.bind_eq_some_iff] at h1
      obtain ⟨cs', hcs', ht'⟩ := h1
      obtain ⟨kd, hh, q, ua, uc, l, ⟨k0, k1, k2, k3⟩, hr⟩ := op_cells ht' (hde i hi)
      obtain ⟨_, _, hcell⟩ := World.cells?_some hcs'
      exact ⟨((kd, hh, q), (ua, uc, l)), ⟨(hcell 0 (by omega)).trans k0, (hcell 1 (by omega)).trans k1, (hcell 2 (by omega)).trans k2, (hcell 3 (by omega)).trans k3⟩, hr⟩
    have spot0 : 0 < len0 → ∃ b off, a = ⟨b, off, none⟩ := fun hp => by
      obtain ⟨y, ⟨hc, _⟩, _⟩ := each 0 hp
      obtain ⟨b, off, spot⟩ := a
      have hspot : spot = none := by simpa [Addr.add] using World.cell?_spot hc
      subst hspot
      exact ⟨b, off, rfl⟩
    obtain ⟨y, hy⟩ : ∃ y : Nat → (Int × Int × Int) × (Option Addr × Nat × List UInt8), ∀ i, i < len0 → (W.cell? ((a.add (i * 4)).add 0) = some (.int .i64 (y i).1.1) ∧ W.cell? ((a.add (i * 4)).add 1) = some (.int .i64 (y i).1.2.1) ∧ W.cell? ((a.add (i * 4)).add 2) = some (.int .i64 (y i).1.2.2) ∧ W.cell? ((a.add (i * 4)).add 3) = some (.slice (y i).2.1 (y i).2.2.2.length (y i).2.2.1)) ∧ Bs W (.slice (y i).2.1 (y i).2.2.2.length (y i).2.2.1) (y i).2.2.2 ∧ NilOr (.slice (y i).2.1 (y i).2.2.2.length (y i).2.2.1) ∧ (y i).2.2.2.length ≤ 1048576 ∧ (y i).1.2.2 ≤ 9223372036854775807 :=
      ⟨fun i => if h : i < len0 then Classical.choose (each i h) else ((0, 0, 0), (none, 0, [])), fun i h => by
        have := Classical.choose_spec (each i h)
        simpa only [dif_pos h] using this⟩
    refine ⟨fun i => (y i).1.1, fun i => (y i).1.2.1, fun i => (y i).1.2.2, fun i => (y i).2.1, fun i => (y i).2.2.1, fun i => (y i).2.2.2, some a, cap0, rfl, hl, hm, fun i hi => ?_⟩
    obtain ⟨b, off, rfl⟩ := spot0 (by omega)
    obtain ⟨⟨q0, q1, q2, q3⟩, hr⟩ := hy i hi
    rw [Go.WideShapes.add_plain, Go.WideShapes.add_plain] at q0 q1 q2 q3
    exact ⟨b, off, rfl, ⟨q0, q1, q2, q3⟩, hr⟩
end Go.Proofs.Ytmceoelafmlpjaa
