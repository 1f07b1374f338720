/-
  TablePlays, for every input: what came in, opened; the row.
-/
import Derived.Test.YtlnjphfkinajdaaRows
import Derived.Test.YtlnjphfkinajdaaPlays
import Derived.ProofKit
import Derived.OpenShut
import Derived.ShutString
import Derived.ChangeOld
import Derived.SizedLaws
import Derived.JoinedCond
import Derived.Deep.CondSized
namespace Go.Proofs.Ytlnjphfkinajdaa
open Go.ChangeShapes Go.WideShapes Go.ChangeAt Go.RowKit
theorem own : ownKnob Try.prog.godebug = none := by kernel_rfl
theorem laidOut : laidOutB Try.prog = true := by kernel_rfl
/-- Nothing in it is greater than a slice may be. -/
def Sz {H : Type} (t : TypeId) (d : DataW H) : Prop := ∀ n ∈ d.weights Try.prog t, n ≤ reachBytes
theorem all_mem {H : Type} {P : Program} {e : TypeId} : ∀ {l : List (DataW H)} {d : DataW H}, d ∈ l → ∀ n ∈ d.weights P e, n ∈ DataW.weightsAll P e l
  | x :: r, d, hd, n, hn => by
    simp only [DataW.weightsAll, List.mem_append]
    cases List.mem_cons.1 hd with
    | inl e => subst e; exact .inl hn
    | inr e => exact .inr (all_mem e n hn)
theorem Sz.elem {H : Type} {t e : TypeId} {elems spare : List (DataW H)} (h : Sz t (.slice elems spare)) (ht : Try.prog.underlying t = some (.slice e)) {d : DataW H} (hd : d ∈ elems) : Sz e d := fun n hn => by
  refine h n ?_
  simp only [DataW.weights, ht, List.mem_cons, List.mem_append]
  exact .inr (.inl (all_mem hd n hn))
theorem nums_sized {H : Type} {enc : TypeId × Value → H} {W : World} {fuel : Nat} {cs : List Value} {x : DataW H × List MemPlace} (hf : DataW.trod enc Try.prog W 0 (fun _ => true) true fuel 27 cs = some x) (hd : Sz 27 x.1) :
    ∃ ua un uc l, cs = [.slice ua un uc] ∧ Fz W (.slice ua un uc) l ∧ l.length ≤ 17592186044416 := by
  rcases open_ints Try.underlying27 Try.underlying2 (by kernel_rfl) hf with ⟨hcs, _⟩ | ⟨a, l, c, zs, hcs, _, hl, hm, hz, hx, hcell, hwz⟩
  · exact ⟨_, _, _, [], hcs, .inl ⟨rfl, rfl⟩, by simp⟩
  · have hz' : zs.length = c := by simpa using hz
    have hlen : l ≤ 17592186044416 := by
      rw [hx] at hd
      have h2 := hd (((lits (H := H) .i64 (zs.take l)).length + (lits (H := H) .i64 (zs.drop l)).length) * Try.prog.bytesOf 2) (by
        simp only [DataW.weights, Try.underlying27]
        exact List.mem_cons_self)
      have hb : Try.prog.bytesOf 2 = 8 := by kernel_rfl
      rw [hb] at h2
      unfold reachBytes at h2
      simp only [lits, List.length_map, List.length_take, List.length_drop] at h2
      omega
    refine ⟨_, _, _, zs.take l, hcs, ?_, by rw [List.length_take]; omega⟩
    have hlt : (zs.take l).length = l := by rw [List.length_take]; omega
    by_cases h0 : l = 0
    · subst h0
      exact .inr (.inl ⟨by simp, a, c, rfl, hm⟩)
    · obtain ⟨b, o, rfl, hc'⟩ := ints_at hcell (by omega)
      refine .inr (.inr ⟨b, o, c, by rw [hlt], by omega, hm, ?_, fun j hj => ?_⟩)
      · have := hc' 0 (by omega)
        exact World.block_lt_of_cell? W _ this
      · have hj' : j < l := by omega
        rw [hc' j (by omega), List.getElem_take, List.getD_eq_getElem?_getD, List.getElem?_eq_getElem (by omega)]
        rfl
theorem int_at {H : Type} {enc : TypeId × Value → H} {W : World} {m j t : Nat} (ht : Try.prog.underlying t = some (.int .i64)) (hc1 : Try.prog.cellsOf t = 1) {cs : List Value} {y : DataW H × List MemPlace} (h : DataW.trod enc Try.prog W 0 (fun _ => true) true m t ((cs.drop j).take (Try.prog.cellsOf t)) = some y) : ∃ n : Int, cs[j]? = some (.int .i64 n) ∧ I64 n := by
  rw [hc1] at h
  obtain ⟨n, hn, _, hw⟩ := DataW.trod_int ht h
  refine ⟨n, ?_, ?_⟩
  · have h2 := congrArg (fun l => l[0]?) hn
    simpa [List.getElem?_take, List.getElem?_drop] using h2
  · simp [Lit.wf, IntKind.min, IntKind.max, IntKind.signed, IntKind.bits] at hw
    exact hw
theorem ent_at {H : Type} {enc : TypeId × Value → H} {W : World} {m j : Nat} {cs : List Value} {y : DataW H × List MemPlace} (h : DataW.trod enc Try.prog W 0 (fun _ => true) true m 32 ((cs.drop j).take (Try.prog.cellsOf 32)) = some y) : ∃ a b : Int, cs[j]? = some (.int .i64 a) ∧ cs[j + 1]? = some (.int .i64 b) ∧ InB (a, b) := by
  have hc1 : Try.prog.cellsOf 32 = 2 := by kernel_rfl
  rw [hc1] at h
  obtain ⟨xs, m', _, hx, _, hxl, hfs⟩ := DataW.trod_struct Try.underlying32 h
  have hxl2 : xs.length = 2 := hxl
  have g0 := hfs 0 _ rfl
  have g1 := hfs 1 _ rfl
  rw [List.getElem?_eq_getElem (by omega)] at g0 g1
  obtain ⟨a, k0, ha⟩ := int_at Try.underlying3 (by kernel_rfl) g0
  obtain ⟨b, k1, hb⟩ := int_at Try.underlying3 (by kernel_rfl) g1
  refine ⟨a, b, ?_, ?_, ha, hb⟩
  · simpa [List.getElem?_take, List.getElem?_drop] using k0
  · simpa [List.getElem?_take, List.getElem?_drop] using k1
theorem op_cells {H : Type} {enc : TypeId × Value → H} {W : World} {fuel : Nat} {cs : List Value} {x : DataW H × List MemPlace} (hf : DataW.trod enc Try.prog W 0 (fun _ => true) true fuel 34 cs = some x) (hd : Sz 34 x.1) :
    ∃ (kd on row col e1 e2 z : Int) (av : Option Addr) (nv cv : Nat) (vals : List Int), (cs[0]? = some (.int .i64 kd) ∧ cs[1]? = some (.int .i64 on) ∧ cs[2]? = some (.int .i64 row) ∧ cs[3]? = some (.int .i64 col) ∧ cs[4]? = some (.int .i64 e1) ∧ cs[5]? = some (.int .i64 e2) ∧ cs[6]? = some (.int .i64 z) ∧ cs[7]? = some (.slice av nv cv)) ∧ I64 on ∧ InB (e1, e2) ∧ I64 row ∧ Fz W (.slice av nv cv) vals ∧ vals.length ≤ 17592186044416 := by
  obtain ⟨xs, m, _, hx, _, hxl, hfs⟩ := DataW.trod_struct Try.underlying34 hf
  have hxl7 : xs.length = 7 := hxl
  have g0 := hfs 0 _ rfl
  have g1 := hfs 1 _ rfl
  have g2 := hfs 2 _ rfl
  have g3 := hfs 3 _ rfl
  have g4 := hfs 4 _ rfl
  have g5 := hfs 5 _ rfl
  have g6 := hfs 6 _ rfl
  rw [List.getElem?_eq_getElem (by omega)] at g0 g1 g2 g3 g4 g5 g6
  obtain ⟨kd, k0, _⟩ := int_at Try.underlying3 (by kernel_rfl) g0
  obtain ⟨on, k1, ho⟩ := int_at Try.underlying3 (by kernel_rfl) g1
  obtain ⟨row, k2, hr⟩ := int_at Try.underlying3 (by kernel_rfl) g2
  obtain ⟨col, k3, _⟩ := int_at Try.underlying3 (by kernel_rfl) g3
  obtain ⟨e1, e2, k4, k5, hE⟩ := ent_at g4
  obtain ⟨z, k6, _⟩ := int_at Try.underlying2 (by kernel_rfl) g5
  have hs6 : Sz 27 (xs[6]'(by omega)).1 := fun n hn => by
    refine hd n ?_
    rw [hx]
    simp only [DataW.weights, Try.underlying34]
    exact DataW.weights_mem_each (j := 6) (t := 27) rfl (by rw [List.getElem?_map, List.getElem?_eq_getElem (by omega)]; rfl) n hn
  obtain ⟨av, nv, cv, vals, hcv, hF, hv⟩ := nums_sized g6 hs6
  have hc1 : Try.prog.cellsOf 27 = 1 := by kernel_rfl
  have h7 := congrArg (fun l => l[0]?) hcv
  exact ⟨kd, on, row, col, e1, e2, z, av, nv, cv, vals, ⟨k0, k1, k2, k3, k4, k5, k6, by simpa [hc1, List.getElem?_take, List.getElem?_drop] using h7⟩, ho, hE, hr, hF, hv⟩
theorem script_arg {H : Type} {enc : TypeId × Value → H} {W : World} {a0 : Option Addr} {len0 cap0 : Nat} {d0 : DataW H} {p0 : List MemPlace} (h0 : DataW.Trod enc Try.prog W 0 (fun _ => true) true 22 (.slice a0 len0 cap0) d0 p0) (hd : Sz 22 d0) : Sc W (.slice a0 len0 cap0) len0 := by
  obtain ⟨fuel, hf⟩ := h0
  rcases DataW.trod_slice Try.underlying22 hf with ⟨hcs, _⟩ | ⟨a, len, cap, elems, rest, n, _, hcs, hx, _, hl, hm, hlen, hel, _, _⟩
  · simp [Value.cells] at hcs
    obtain ⟨rfl, rfl, rfl⟩ := hcs
    exact ⟨none, 0, rfl, Nat.le_refl _, Nat.zero_le _, fun i hi => absurd hi (by simp)⟩
  · simp [Value.cells] at hcs
    obtain ⟨rfl, rfl, rfl⟩ := hcs
    have hc8 : Try.prog.cellsOf 34 = 8 := by kernel_rfl
    simp only [Prod.mk.injEq] at hx
    have hde : ∀ i (h : i < len0), Sz 34 (elems[i]'(by omega)).1 := fun i h => by
      rw [hx.1] at hd
      exact hd.elem Try.underlying22 (List.mem_map.2 ⟨_, List.getElem_mem _, rfl⟩)
    have spot0 : 0 < len0 → ∃ b off, a = ⟨b, off, none⟩ := fun hp => by
      have h1 := hel 0 hp
      rw [List.getElem?_eq_getElem (by omega), hc8, Option.bind_eq_some_iff] at h1
      obtain ⟨cs', hcs', ht'⟩ := h1
      obtain ⟨kd, on, row, col, e1, e2, z, av, nv, cv, vals, ⟨k0, -⟩, -⟩ := op_cells ht' (hde 0 hp)
      obtain ⟨_, _, hcell⟩ := World.cells?_some hcs'
      have q0 := (hcell 0 (by omega)).trans k0
      obtain ⟨b, off, spot⟩ := a
      have hspot : spot = none := by simpa [Addr.add] using World.cell?_spot q0
      subst hspot
      exact ⟨b, off, rfl⟩
    refine ⟨some a, cap0, rfl, hl, hm, fun i hi => ?_⟩
    have h1 := hel i hi
    rw [List.getElem?_eq_getElem (by omega), hc8, Option.bind_eq_some_iff] at h1
    obtain ⟨cs', hcs', ht'⟩ := h1
    obtain ⟨kd, on, row, col, e1, e2, z, av, nv, cv, vals, ⟨k0, k1, k2, k3, k4, k5, k6, k7⟩, hr⟩ := op_cells ht' (hde i hi)
    obtain ⟨_, _, hcell⟩ := World.cells?_some hcs'
    have q0 := (hcell 0 (by omega)).trans k0
    have q1 := (hcell 1 (by omega)).trans k1
    have q2 := (hcell 2 (by omega)).trans k2
    have q3 := (hcell 3 (by omega)).trans k3
    have q4 := (hcell 4 (by omega)).trans k4
    have q5 := (hcell 5 (by omega)).trans k5
    have q6 := (hcell 6 (by omega)).trans k6
    have q7 := (hcell 7 (by omega)).trans k7
    obtain ⟨blk, off, rfl⟩ := spot0 (by omega)
    rw [Go.WideShapes.add_plain, Go.WideShapes.add_plain] at q0 q1 q2 q3 q4 q5 q6 q7
    exact ⟨blk, off, rfl, kd, on, row, col, e1, e2, z, av, nv, cv, vals, ⟨q0, q1, q2, q3, q4, q5, q6, q7⟩, hr⟩
end Go.Proofs.Ytlnjphfkinajdaa
namespace Go.Proofs.Ytlnjphfkinajdaa.tablePlays
open Go.ChangeShapes Go.WideShapes Go.ChangeAt Go.RowKit
set_option maxRecDepth 100000 in
theorem lifted (os : Os) (started : os.Started) (H : Type) (enc : TypeId × Value → H) :
    ReturnsInHanded {} Try.checked os 3 .any (Rows.tablePlaysSpec.pre6 enc Try.prog Try.f3 Rows.tablePlaysRow.domain false) (Rows.tablePlaysSpec.post enc Try.prog Try.f3 false true false false) := by
  refine returnsInHanded_of_change_sized (C := Try.checked) own started (by kernel_rfl) Try.func3
    (ChangeSpec.witness6 (enc := enc) (C := Try.checked) false ⟨#[], #[.slice none 0 0], []⟩ 8 (by kernel_rfl) (by kernel_rfl) (by kernel_rfl) (by kernel_rfl)) ?_
  intro W base args ds gs before hval0 hW hcnd hsz0 _
  have hval : ∀ (j : Nat) t v, Try.f3.params[j]? = some t → args[j]? = some v → Value.okWide Try.prog W .any base t v := hval0
  have hW' := hW
  obtain ⟨p, q, hA0, hV, rfl, hfz, hnd⟩ := hW
  have hA : DataW.TrodAll enc Try.prog W 0 (fun _ => true) true Try.f3.params.toList args.toList ds p := hA0
  rw [Try.params3] at hA hval
  obtain ⟨v0, vs0, d0, ds0, p0, q0, hargs, rfl, rfl, h0, r0⟩ := trodAll_cons hA
  obtain ⟨rfl, rfl, rfl⟩ := trodAll_nil r0
  obtain rfl : args = #[v0] := by cases args; simp_all
  obtain ⟨rfl, rfl⟩ := trodVars_none hV
  obtain ⟨a0, len0, cap0, rfl⟩ := okWide_slice Try.underlying22 (hval 0 22 v0 rfl rfl)
  have lt0 : ∀ x ∈ p0, x.block < W.heap.size := by obtain ⟨m, hm⟩ := h0; exact DataW.trod_lt m _ _ _ hm
  have hsz : Sz 22 d0 := fun n hn => by
    have := List.all_eq_true.1 hsz0 n (DataW.weights_mem_each (j := 0) (t := 22) (d := d0) rfl rfl n hn)
    simpa using this
  have hsc := script_arg h0 hsz
  clear hA0 hval0
  refine (plays_walk _ len0 W hsc).mono fun e W' ⟨he, bel⟩ => ?_
  subst he
  exact ⟨_, rfl, _, _, _, [], _, [], hW', trodAll_mk1 (shut_bool Try.underlying4 _), (trodAll_cons_mk (Below.trod laidOut (by kernel_rfl) (of_decide_eq_true (by kernel_rfl)) h0 bel lt0) trodAll_mk0), rfl, bel.frame _, fun h => by cases h⟩

theorem over : Rows.tablePlaysRow.holds Try.pinned (OpenSpec.ofChange Rows.tablePlaysSpec) :=
  OpenClaim.holds_of_wide 3 Try.f3 rfl rfl rfl rfl rfl rfl rfl ⟨rfl, rfl, rfl, rfl, rfl⟩ rfl rfl rfl rfl rfl (by kernel_rfl) Try.func3 (by kernel_rfl)
    (of_decide_eq_true (by kernel_rfl)) (by unfold Func.isWrapper; first | (rw [if_pos (by decide +kernel)]; kernel_rfl) | (rw [if_neg (by decide +kernel)]; exact ⟨rfl, rfl⟩))
    (fun os started H enc _ => lifted os started H enc)
end Go.Proofs.Ytlnjphfkinajdaa.tablePlays
namespace Go.Proofs.Ytlnjphfkinajdaa
theorem tablePlays_holds : Rows.TablePlaysSaid := tablePlays.over
#print axioms tablePlays_holds
end Go.Proofs.Ytlnjphfkinajdaa
