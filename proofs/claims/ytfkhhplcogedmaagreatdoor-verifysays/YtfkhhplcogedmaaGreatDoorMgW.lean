import Derived.Test.YtfkhhplcogedmaaGreatDoorVrA
import Derived.Test.YtfkhhplcogedmaaGreatDoorVdI
import Derived.Test.YtfkhhplcogedmaaGreatDoorVsC
/-
  Verify: the sizes of what is handed in.
-/
namespace Go.Proofs.YtfkhhplcogedmaaGreatDoor
open Go.ChangeShapes Go.WideShapes Go.ChangeAt Go.RowKit
set_option maxRecDepth 100000
section
variable {H : Type} {enc : TypeId × Value → H} {W : World}
/-- What is laid lies within reach. -/
def Wts (t : TypeId) (y : DataW H × List MemPlace) : Prop := ∀ k ∈ y.1.weights Tryz.prog t, k ≤ reachBytes
theorem w_all {e : TypeId} : ∀ {l : List (DataW H)} {i : Nat} {d : DataW H}, l[i]? = some d → ∀ n ∈ d.weights Tryz.prog e, n ∈ DataW.weightsAll Tryz.prog e l
  | [], _, _, h, _, _ => by simp at h
  | x :: r, 0, d, h, n, hn => by
    simp only [List.getElem?_cons_zero, Option.some.injEq] at h
    subst h
    simp only [DataW.weightsAll, List.mem_append]
    exact Or.inl hn
  | x :: r, i + 1, d, h, n, hn => by
    simp only [List.getElem?_cons_succ] at h
    simp only [DataW.weightsAll, List.mem_append]
    exact Or.inr (w_all h n hn)
theorem slice_size {t e : TypeId} {b c1 m n c : Nat} {ao : Option Addr} {y : DataW H × List MemPlace} (ht : Tryz.prog.underlying t = some (.slice e)) (hb : Tryz.prog.bytesOf e = b) (hc1 : Tryz.prog.cellsOf e = c1) (h : DataW.trod enc Tryz.prog W 0 (fun _ => true) true m t [.slice ao n c] = some y) (hw : Wts t y) :
    n * b ≤ 140737488351232 ∧ ∀ i, i < n → ∃ a cs' y' m', ao = some a ∧ W.cells? 0 (a.add (i * c1)) c1 = some cs' ∧ DataW.trod enc Tryz.prog W 0 (fun _ => true) true m' e cs' = some y' ∧ Wts e y' := by
  rcases DataW.trod_slice ht h with ⟨e0, _⟩ | ⟨a, len, cap, elems, rest, m', _, ecs, hx, _, hl, hm, hlen, hel, _, _⟩
  · simp only [List.cons.injEq, Value.slice.injEq, and_true] at e0
    obtain ⟨_, rfl, _⟩ := e0
    exact ⟨by simp, fun i hi => absurd hi (by omega)⟩
  · simp only [List.cons.injEq, Value.slice.injEq, and_true] at ecs
    obtain ⟨rfl, rfl, rfl⟩ := ecs
    have hW : ∀ k ∈ (elems.length + rest.length) * b :: (DataW.weightsAll Tryz.prog e (elems.map (·.1)) ++ DataW.weightsAll Tryz.prog e (rest.map (·.1))), k ≤ reachBytes := fun k hk => hw k (by
      rw [hx]
      unfold DataW.weights
      rw [ht]
      dsimp only
      rw [hb, List.length_map, List.length_map]
      exact hk)
    refine ⟨?_, fun i hi => ?_⟩
    · have h1 := hW _ List.mem_cons_self
      unfold reachBytes at h1
      have h2 : n * b ≤ (elems.length + rest.length) * b := Nat.mul_le_mul_right b (by omega)
      omega
    · have h1 := hel i hi
      rw [List.getElem?_eq_getElem (by omega), hc1, Option.bind_eq_some_iff] at h1
      obtain ⟨cs', hcs', ht'⟩ := h1
      exact ⟨a, cs', _, m', rfl, hcs', ht', fun k hk => hW k (List.mem_cons_of_mem _ (List.mem_append_left _ (w_all (i := i) (by rw [List.getElem?_map, List.getElem?_eq_getElem (by omega)]; rfl) k hk)))⟩
theorem struct_part {t : TypeId} {fs : Array Field} {f : Field} (i : Nat) (ft : TypeId) (fo : Nat) {m : Nat} {cs : List Value} {x : DataW H × List MemPlace} (ht : Tryz.prog.underlying t = some (.struct fs)) (hf : fs[i]? = some f) (hft : f.type = ft) (hfo : f.offset = fo) (h : DataW.trod enc Tryz.prog W 0 (fun _ => true) true m t cs = some x) (hw : Wts t x) :
    ∃ m' y', DataW.trod enc Tryz.prog W 0 (fun _ => true) true m' ft ((cs.drop fo).take (Tryz.prog.cellsOf ft)) = some y' ∧ Wts ft y' := by
  subst hft hfo
  obtain ⟨xs, n, _, rfl, hl, hlen, hfs⟩ := DataW.trod_struct ht h
  have hi : i < xs.length := by rw [hlen]; exact (Array.getElem?_eq_some_iff.1 hf).1
  refine ⟨n, xs[i], (hfs i f hf).trans (List.getElem?_eq_getElem hi), fun k hk => hw k ?_⟩
  unfold DataW.weights
  rw [ht]
  exact DataW.weights_mem_each (j := i) (t := f.type) (d := xs[i].1) (by simp [hf]) (by simp [List.getElem?_eq_getElem hi]) k hk
theorem drop1 {cs : List Value} {k : Nat} {v : Value} (h : cs[k]? = some v) : (cs.drop k).take 1 = [v] := by
  obtain ⟨hk, rfl⟩ := List.getElem?_eq_some_iff.1 h
  rw [List.drop_eq_getElem_cons hk]
  rfl
theorem nums_size {Q : Nat → Prop} {m : Nat} {v : Value} {l : List Int} {y : DataW H × List MemPlace} (h : DataW.trod enc Tryz.prog W 0 (fun _ => true) true m 36 [v] = some y) (hw : Wts 36 y) (hn : Nl Q W v l) : l.length ≤ 18000000000000 := by
  obtain ⟨ao, c, rfl, -⟩ := hn
  have := (slice_size (b := 8) (c1 := 1) Tryz.underlying36 (by kernel_rfl) (by kernel_rfl) h hw).1
  omega
theorem code_size {Q : Nat → Prop} {m : Nat} {v : Value} {l : List Ins} {y : DataW H × List MemPlace} (h : DataW.trod enc Tryz.prog W 0 (fun _ => true) true m 33 [v] = some y) (hw : Wts 33 y) (hn : Il Q W v l) : l.length ≤ 8800000000000 := by
  obtain ⟨ao, c, rfl, -⟩ := hn
  have := (slice_size (b := 16) (c1 := 2) Tryz.underlying33 (by kernel_rfl) (by kernel_rfl) h hw).1
  omega
theorem rt_size {Q : Nat → Prop} {m : Nat} {cs : List Value} {v : Value} {l : List Ins} {y : DataW H × List MemPlace} (h : DataW.trod enc Tryz.prog W 0 (fun _ => true) true m 35 cs = some y) (hw : Wts 35 y) (hc : cs[3]? = some v) (hn : Il Q W v l) : l.length ≤ 8800000000000 := by
  obtain ⟨m', y', h1, h2⟩ := struct_part 3 33 3 Tryz.underlying35 rfl rfl rfl h hw
  have cC : Tryz.prog.cellsOf 33 = 1 := by kernel_rfl
  rw [cC, drop1 hc] at h1
  exact code_size h1 h2 hn
theorem rts_size {Q : Nat → Prop} {m : Nat} {v : Value} {l : List Rt} {y : DataW H × List MemPlace} (h : DataW.trod enc Tryz.prog W 0 (fun _ => true) true m 23 [v] = some y) (hw : Wts 23 y) (hr : Rts Q W v l) : l.length ≤ 2600000000000 ∧ ∀ r ∈ l, r.code.length ≤ 8800000000000 := by
  obtain ⟨ao, c, rfl, -, -, h4⟩ := hr
  obtain ⟨h1, h2⟩ := slice_size (b := 56) (c1 := 4) Tryz.underlying23 (by kernel_rfl) (by kernel_rfl) h hw
  refine ⟨by omega, fun r hr => ?_⟩
  obtain ⟨i, hi, rfl⟩ := List.mem_iff_getElem.1 hr
  obtain ⟨a, cs', y', m', rfl, hcs, ht, hwt⟩ := h2 i hi
  obtain ⟨g, o, e, -, hh⟩ := h4 (by omega)
  obtain rfl : a = ⟨g, o, none⟩ := by simpa using e
  obtain ⟨-, -, vc, -, -, -, c3, il⟩ := hh i hi
  obtain ⟨_, _, hcell⟩ := World.cells?_some hcs
  have h3 := hcell 3 (by omega)
  rw [Go.WideShapes.add_plain, Go.WideShapes.add_plain, c3] at h3
  exact rt_size ht hwt h3.symm il
theorem sy_size {Q : Nat → Prop} {m g o : Nat} {cs : List Value} {s : Sy} {y : DataW H × List MemPlace} (h : DataW.trod enc Tryz.prog W 0 (fun _ => true) true m 38 cs = some y) (hw : Wts 38 y) (hc : ∀ j, j < 8 → W.cell? ⟨g, o + j, none⟩ = cs[j]?) (hs : SyAt Q W g o s) : Wd.Small5 s := by
  obtain ⟨-, -, v1, v2, v3, v4, vc, c0, c1, c2, c3, -, -, -, c7, n1, n2, n3, n4, il⟩ := hs
  have cN : Tryz.prog.cellsOf 36 = 1 := by kernel_rfl
  have cR : Tryz.prog.cellsOf 35 = 4 := by kernel_rfl
  obtain ⟨m0, y0, a0, b0⟩ := struct_part 0 36 0 Tryz.underlying38 rfl rfl rfl h hw
  obtain ⟨m1, y1, a1, b1⟩ := struct_part 1 36 1 Tryz.underlying38 rfl rfl rfl h hw
  obtain ⟨m2, y2, a2, b2⟩ := struct_part 2 36 2 Tryz.underlying38 rfl rfl rfl h hw
  obtain ⟨m3, y3, a3, b3⟩ := struct_part 3 36 3 Tryz.underlying38 rfl rfl rfl h hw
  obtain ⟨m4, y4, a4, b4⟩ := struct_part 4 35 4 Tryz.underlying38 rfl rfl rfl h hw
  rw [cN] at a0 a1 a2 a3
  rw [cR] at a4
  rw [drop1 ((hc 0 (by omega)).symm.trans c0)] at a0
  rw [drop1 ((hc 1 (by omega)).symm.trans c1)] at a1
  rw [drop1 ((hc 2 (by omega)).symm.trans c2)] at a2
  rw [drop1 ((hc 3 (by omega)).symm.trans c3)] at a3
  have k7 : ((cs.drop 4).take 4)[3]? = some vc := by
    rw [List.getElem?_take_of_lt (by omega), List.getElem?_drop]
    exact (hc 7 (by omega)).symm.trans c7
  exact ⟨nums_size a0 b0 n1, nums_size a1 b1 n2, nums_size a2 b2 n3, nums_size a3 b3 n4, rt_size a4 b4 k7 il⟩
theorem syss_size {Q : Nat → Prop} {m : Nat} {v : Value} {l : List Sy} {y : DataW H × List MemPlace} (h : DataW.trod enc Tryz.prog W 0 (fun _ => true) true m 22 [v] = some y) (hw : Wts 22 y) (hr : Sys Q W v l) : l.length ≤ 930000000000 ∧ ∀ s ∈ l, Wd.Small5 s := by
  obtain ⟨ao, c, rfl, -, -, h4⟩ := hr
  obtain ⟨h1, h2⟩ := slice_size (b := 152) (c1 := 8) Tryz.underlying22 (by kernel_rfl) (by kernel_rfl) h hw
  refine ⟨by omega, fun r hr => ?_⟩
  obtain ⟨i, hi, rfl⟩ := List.mem_iff_getElem.1 hr
  obtain ⟨a, cs', y', m', rfl, hcs, ht, hwt⟩ := h2 i hi
  obtain ⟨g, o, e, -, hh⟩ := h4 (by omega)
  obtain rfl : a = ⟨g, o, none⟩ := by simpa using e
  obtain ⟨_, _, hcell⟩ := World.cells?_some hcs
  refine sy_size ht hwt (fun j hj => ?_) (hh i hi)
  have h3 := hcell j (by omega)
  rwa [Go.WideShapes.add_plain, Go.WideShapes.add_plain] at h3
end
end Go.Proofs.YtfkhhplcogedmaaGreatDoor

/-
  Verify: the sizes of kinds and of names that are handed in.
-/
namespace Go.Proofs.YtfkhhplcogedmaaGreatDoor
open Go.ChangeShapes Go.WideShapes Go.ChangeAt Go.RowKit
set_option maxRecDepth 100000
section
variable {H : Type} {enc : TypeId × Value → H} {W : World}
theorem str_size {m : Nat} {s : ByteArray} {y : DataW H × List MemPlace} (h : DataW.trod enc Tryz.prog W 0 (fun _ => true) true m 9 [.string s] = some y) : s.size ≤ 9223372036854775807 := by
  obtain ⟨s', e, -, h'⟩ := DataW.trod_string Tryz.underlying9 h
  injection e with e
  injection e with e
  subst e
  exact h'
theorem rt_name {m : Nat} {cs : List Value} {x : ByteArray} {y : DataW H × List MemPlace} (h : DataW.trod enc Tryz.prog W 0 (fun _ => true) true m 35 cs = some y) (hw : Wts 35 y) (hc : cs[0]? = some (.string x)) : x.size ≤ 9223372036854775807 := by
  obtain ⟨m', y', h1, h2⟩ := struct_part 0 9 0 Tryz.underlying35 rfl rfl rfl h hw
  have cC : Tryz.prog.cellsOf 9 = 1 := by kernel_rfl
  rw [cC, drop1 hc] at h1
  exact str_size h1
theorem rts_names {Q : Nat → Prop} {m : Nat} {v : Value} {l : List Rt} {y : DataW H × List MemPlace} (h : DataW.trod enc Tryz.prog W 0 (fun _ => true) true m 23 [v] = some y) (hw : Wts 23 y) (hr : Rts Q W v l) : ∀ r ∈ l, r.name.size ≤ 9223372036854775807 := by
  obtain ⟨ao, c, rfl, -, -, h4⟩ := hr
  obtain ⟨h1, h2⟩ := slice_size (b := 56) (c1 := 4) Tryz.underlying23 (by kernel_rfl) (by kernel_rfl) h hw
  intro r hr
  obtain ⟨i, hi, rfl⟩ := List.mem_iff_getElem.1 hr
  obtain ⟨a, cs', y', m', rfl, hcs, ht, hwt⟩ := h2 i hi
  obtain ⟨g, o, e, -, hh⟩ := h4 (by omega)
  obtain rfl : a = ⟨g, o, none⟩ := by simpa using e
  obtain ⟨-, -, vc, c0, -⟩ := hh i hi
  obtain ⟨_, _, hcell⟩ := World.cells?_some hcs
  have h3 := hcell 0 (by omega)
  rw [Go.WideShapes.add_plain, Go.WideShapes.add_plain, Nat.add_zero, c0] at h3
  exact rt_name ht hwt h3.symm
theorem syss_names {Q : Nat → Prop} {m : Nat} {v : Value} {l : List Sy} {y : DataW H × List MemPlace} (h : DataW.trod enc Tryz.prog W 0 (fun _ => true) true m 22 [v] = some y) (hw : Wts 22 y) (hr : Sys Q W v l) : ∀ s ∈ l, s.run.name.size ≤ 9223372036854775807 := by
  obtain ⟨ao, c, rfl, -, -, h4⟩ := hr
  obtain ⟨h1, h2⟩ := slice_size (b := 152) (c1 := 8) Tryz.underlying22 (by kernel_rfl) (by kernel_rfl) h hw
  intro r hr
  obtain ⟨i, hi, rfl⟩ := List.mem_iff_getElem.1 hr
  obtain ⟨a, cs', y', m', rfl, hcs, ht, hwt⟩ := h2 i hi
  obtain ⟨g, o, e, -, hh⟩ := h4 (by omega)
  obtain rfl : a = ⟨g, o, none⟩ := by simpa using e
  obtain ⟨_, _, hcell⟩ := World.cells?_some hcs
  have cR : Tryz.prog.cellsOf 35 = 4 := by kernel_rfl
  obtain ⟨m4, y4, a4, b4⟩ := struct_part 4 35 4 Tryz.underlying38 rfl rfl rfl ht hwt
  rw [cR] at a4
  obtain ⟨-, -, v1, v2, v3, v4, vc, -, -, -, -, c4, -⟩ := hh i hi
  have h3 := hcell 4 (by omega)
  rw [Go.WideShapes.add_plain, Go.WideShapes.add_plain, c4] at h3
  refine rt_name a4 b4 ?_
  rw [List.getElem?_take_of_lt (by omega), List.getElem?_drop]
  exact h3.symm
theorem strs_size {m : Nat} {v : Value} {l : List ByteArray} {y : DataW H × List MemPlace} (h : DataW.trod enc Tryz.prog W 0 (fun _ => true) true m 61 [v] = some y) (hw : Wts 61 y) (hr : Sr W v l) : l.length * 16 ≤ 140737488351232 ∧ ∀ x ∈ l, Small x := by
  obtain ⟨ao, c, rfl, -, -, h4⟩ := hr
  obtain ⟨h1, h2⟩ := slice_size (b := 16) (c1 := 1) Tryz.underlying61 (by kernel_rfl) (by kernel_rfl) h hw
  refine ⟨h1, fun r hr => ?_⟩
  obtain ⟨i, hi, rfl⟩ := List.mem_iff_getElem.1 hr
  obtain ⟨a, cs', y', m', rfl, hcs, ht, hwt⟩ := h2 i hi
  obtain ⟨g, o, e, c0⟩ := h4 i hi
  obtain rfl : a = ⟨g, o, none⟩ := by simpa using e
  obtain ⟨hl, _, hcell⟩ := World.cells?_some hcs
  have h3 := hcell 0 (by omega)
  rw [Go.WideShapes.add_plain, Go.WideShapes.add_plain, Nat.add_zero, Nat.mul_one, c0] at h3
  obtain ⟨x, rfl⟩ : ∃ x, cs' = [x] := by
    match cs', hl with
    | [x], _ => exact ⟨x, rfl⟩
  simp only [List.getElem?_cons_zero, Option.some.injEq] at h3
  subst h3
  exact str_size ht
theorem kinds_size {m : Nat} {v : Value} {ks : List Kind} {y : DataW H × List MemPlace} (h : DataW.trod enc Tryz.prog W 0 (fun _ => true) true m 26 [v] = some y) (hw : Wts 26 y) (hr : Kr W v ks) : Sz ks := by
  obtain ⟨ao, c, rfl, -, -, h4⟩ := hr
  obtain ⟨h1, h2⟩ := slice_size (b := 40) (c1 := 2) Tryz.underlying26 (by kernel_rfl) (by kernel_rfl) h hw
  refine ⟨h1, fun r hr => ?_⟩
  obtain ⟨i, hi, rfl⟩ := List.mem_iff_getElem.1 hr
  obtain ⟨a, cs', y', m', rfl, hcs, ht, hwt⟩ := h2 i hi
  obtain ⟨g, o, vf, e, c0, c1, hs⟩ := h4 i hi
  obtain rfl : a = ⟨g, o, none⟩ := by simpa using e
  obtain ⟨_, _, hcell⟩ := World.cells?_some hcs
  have h3 := hcell 0 (by omega)
  have h5 := hcell 1 (by omega)
  rw [Go.WideShapes.add_plain, Go.WideShapes.add_plain, Nat.add_zero, c0] at h3
  rw [Go.WideShapes.add_plain, Go.WideShapes.add_plain, c1] at h5
  have cC : Tryz.prog.cellsOf 9 = 1 := by kernel_rfl
  have cL : Tryz.prog.cellsOf 61 = 1 := by kernel_rfl
  obtain ⟨m0, y0, a0, b0⟩ := struct_part 0 9 0 Tryz.underlying63 rfl rfl rfl ht hwt
  obtain ⟨m1, y1, a1, b1⟩ := struct_part 1 61 1 Tryz.underlying63 rfl rfl rfl ht hwt
  rw [cC, drop1 h3.symm] at a0
  rw [cL, drop1 h5.symm] at a1
  obtain ⟨q1, q2⟩ := strs_size a1 b1 hs
  exact ⟨q1, str_size a0, q2⟩
end
end Go.Proofs.YtfkhhplcogedmaaGreatDoor
