import Derived.Test.YtfbhoemfabgjpaaGreatMgBD
import Derived.Test.YtfbhoemfabgjpaaGreatRows
import Derived.ProofKit
import Derived.OpenShut
import Derived.ShutString
import Derived.ChangeOld
import Derived.SizedLaws
import Derived.JoinedCond
import Derived.Deep.CondSized
import Derived.Deep.Slices
import Derived.Deep.RegionHeld3
import Derived.OrdersHeld
import Derived.Test.YtfbhoemfabgjpaaGreatMgAS
import Derived.Laws.BytesArg
/-
  Buffer: the steps that come in, opened.
-/
namespace Go.Proofs.YtfbhoemfabgjpaaGreat
open Go.ChangeShapes Go.WideShapes Go.ChangeAt Go.RowKit
set_option maxRecDepth 100000
theorem own : ownKnob Tryz.prog.godebug = none := by kernel_rfl
theorem laidOut : laidOutB Tryz.prog = true := by kernel_rfl
theorem len2 {α : Type} {l : List α} (h : l.length = 2) : ∃ a b, l = [a, b] := by
  match l, h with
  | [a, b], _ => exact ⟨_, _, rfl⟩
theorem len5 {α : Type} {l : List α} (h : l.length = 5) : ∃ a b c d e, l = [a, b, c, d, e] := by
  match l, h with
  | [a, b, c, d, e], _ => exact ⟨_, _, _, _, _, rfl⟩
theorem len6 {α : Type} {l : List α} (h : l.length = 6) : ∃ a b c d e f, l = [a, b, c, d, e, f] := by
  match l, h with
  | [a, b, c, d, e, f], _ => exact ⟨_, _, _, _, _, _, rfl⟩
theorem len7 {α : Type} {l : List α} (h : l.length = 7) : ∃ a b c d e f g, l = [a, b, c, d, e, f, g] := by
  match l, h with
  | [a, b, c, d, e, f, g], _ => exact ⟨_, _, _, _, _, _, _, rfl⟩
theorem len13 {α : Type} {l : List α} (h : l.length = 13) : ∃ a b c d e f g a' b' c' d' e' f', l = [a, b, c, d, e, f, g, a', b', c', d', e', f'] := by
  match l, h with
  | [a, b, c, d, e, f, g, a', b', c', d', e', f'], _ => exact ⟨_, _, _, _, _, _, _, _, _, _, _, _, _, rfl⟩
theorem bytesI : Tryz.prog.bytesOf 2 = 8 := by kernel_rfl
theorem bytesP : Tryz.prog.bytesOf 51 = 32 := by kernel_rfl
theorem inI_of {n : Int} (h : (Lit.int .i64 n).wf = true) : -9223372036854775808 ≤ n ∧ n ≤ 9223372036854775807 := by
  have m1 : IntKind.i64.min = -9223372036854775808 := by rfl
  have m2 : IntKind.i64.max = 9223372036854775807 := by rfl
  simp [Lit.wf, m1, m2] at h
  omega
section
variable {H : Type} {enc : TypeId × Value → H} {W : World}
theorem weights_agg {Q : Program} {t : TypeId} {fs : Array Field} {parts : List (DataW H)} (hu : Q.underlying t = some (.struct fs)) : (DataW.agg parts).weights Q t = DataW.weightsEach Q (fs.toList.map (·.type)) parts := by
  simp only [DataW.weights, hu]
theorem weights_slice {Q : Program} {t e : TypeId} {l r : List (DataW H)} (hu : Q.underlying t = some (.slice e)) : (DataW.slice l r).weights Q t = (l.length + r.length) * Q.bytesOf e :: (DataW.weightsAll Q e l ++ DataW.weightsAll Q e r) := by
  simp only [DataW.weights, hu]
theorem weights_all_mem {Q : Program} {e : TypeId} {n : Nat} : ∀ {l : List (DataW H)} {d : DataW H}, d ∈ l → n ∈ d.weights Q e → n ∈ DataW.weightsAll Q e l
  | x :: t, d, hd, hn => by
    simp only [DataW.weightsAll, List.mem_append]
    rcases List.mem_cons.1 hd with rfl | h
    · exact .inl hn
    · exact .inr (weights_all_mem h hn)
theorem field_at {Q : Program} {t : TypeId} {m j k : Nat} {cs cs' : List Value} {y : DataW H × List MemPlace} (hc : Q.cellsOf t = k) (he : (cs.drop j).take k = cs') (h : DataW.trod enc Q W 0 (fun _ => true) true m t ((cs.drop j).take (Q.cellsOf t)) = some y) : DataW.trod enc Q W 0 (fun _ => true) true m t cs' = some y := by
  rw [hc, he] at h
  exact h
theorem int_open {fuel : Nat} {c : Value} {y : DataW H × List MemPlace} (h : DataW.trod enc Tryz.prog W 0 (fun _ => true) true fuel 3 [c] = some y) : ∃ n : Int, c = .int .i64 n ∧ (-9223372036854775808 ≤ n ∧ n ≤ 9223372036854775807) := by
  obtain ⟨n, hn, -, hw⟩ := DataW.trod_int Tryz.underlying3 h
  simp only [List.cons.injEq, and_true] at hn
  exact ⟨n, hn, inI_of hw⟩
theorem ent_open {fuel : Nat} {c0 c1 : Value} {y : DataW H × List MemPlace} (h : DataW.trod enc Tryz.prog W 0 (fun _ => true) true fuel 34 [c0, c1] = some y) : ∃ x y : Int, c0 = .int .i64 x ∧ c1 = .int .i64 y ∧ InB (x, y) := by
  obtain ⟨y0, y1, n, -, -, h0, h1⟩ := trod_struct2 Tryz.underlying34 h
  obtain ⟨a, e0, b0⟩ := int_open (field_at (k := 1) (cs' := [c0]) (by kernel_rfl) rfl h0)
  obtain ⟨b, e1, b1⟩ := int_open (field_at (k := 1) (cs' := [c1]) (by kernel_rfl) rfl h1)
  exact ⟨a, b, e0, e1, b0, b1⟩
theorem ints_open {fuel : Nat} {cs : List Value} {y : DataW H × List MemPlace} (h : DataW.trod enc Tryz.prog W 0 (fun _ => true) true fuel 35 cs = some y) (hs : ∀ n ∈ y.1.weights Tryz.prog 35, n ≤ reachBytes) :
    ∃ (a : Option Addr) (n c : Nat) (l : List Int), cs = [.slice a n c] ∧ Iz W (.slice a n c) l ∧ l.length * 8 ≤ 140737488355328 ∧ ∀ x ∈ l, -9223372036854775808 ≤ x ∧ x ≤ 9223372036854775807 := by
  rcases open_ints Tryz.underlying35 Tryz.underlying2 (by kernel_rfl) h with ⟨hcs, _⟩ | ⟨a, len, cap, zs, hcs, _, hl, hm, hz, rfl, hcell, hwz⟩
  · exact ⟨none, 0, 0, [], hcs, ⟨none, 0, rfl, Nat.le_refl _, Nat.zero_le _, fun j hj => absurd hj (by simp)⟩, by simp, fun x hx => by cases hx⟩
  · have hz' : zs.length = cap := by simpa using hz
    have hw := hs _ (by rw [weights_slice Tryz.underlying35]; exact List.mem_cons_self)
    rw [bytesI] at hw
    simp only [lits, List.length_map, List.length_take, List.length_drop] at hw
    unfold reachBytes at hw
    have hlt : (zs.take len).length = len := by rw [List.length_take]; omega
    refine ⟨some a, len, cap, zs.take len, hcs, ⟨some a, cap, by rw [hlt], by rw [hlt]; exact hl, hm, fun j hj => ?_⟩, by rw [hlt]; omega, fun x hx => inI_of (hwz _ (List.mem_of_mem_take hx))⟩
    rw [hlt] at hj
    obtain ⟨g, o, rfl, hc⟩ := ints_at hcell (by omega)
    have c1 := hc j (by omega)
    have e1 : zs.getD j 0 = zs[j]'(by omega) := by rw [List.getD_eq_getElem?_getD, List.getElem?_eq_getElem (by omega)]; rfl
    rw [e1] at c1
    have e2 : (zs.take len)[j]'(by rw [hlt]; exact hj) = zs[j]'(by omega) := List.getElem_take
    rw [e2]
    exact ⟨g, o, rfl, c1⟩
theorem part_open {fuel : Nat} {c0 c1 : Value} {y : DataW H × List MemPlace} (h : DataW.trod enc Tryz.prog W 0 (fun _ => true) true fuel 51 [c0, c1] = some y) (hs : ∀ n ∈ y.1.weights Tryz.prog 51, n ≤ reachBytes) :
    ∃ x : Pt × List Int, c0 = .int .i64 x.1.1 ∧ c1 = ptV x.1 ∧ Iz W (ptV x.1) x.2 ∧ x.2.length * 8 ≤ 140737488355328 ∧ ∀ u ∈ x.2, -9223372036854775808 ≤ u ∧ u ≤ 9223372036854775807 := by
  obtain ⟨y0, y1, n, rfl, -, h0, h1⟩ := trod_struct2 Tryz.underlying51 h
  obtain ⟨k, e0, -⟩ := int_open (field_at (k := 1) (cs' := [c0]) (by kernel_rfl) rfl h0)
  obtain ⟨a, m, c, l, e1, hi, hl, hb⟩ := ints_open (field_at (k := 1) (cs' := [c1]) (by kernel_rfl) rfl h1) (fun n hn => hs n (by
    rw [weights_agg Tryz.underlying51]
    exact DataW.weights_mem_each (j := 1) (t := 35) (d := y1.1) rfl rfl n hn))
  simp only [List.cons.injEq, and_true] at e1
  exact ⟨((k, a, m, c), l), e0, e1, hi, hl, hb⟩
theorem plain_at {a : Addr} {v : Value} {k : Nat} (h : W.cell? ((a.add (0 * k)).add 0) = some v) : ∃ g o, a = ⟨g, o, none⟩ := by
  obtain ⟨g, o, spot⟩ := a
  rw [Nat.zero_mul] at h
  have hspot : spot = none := by simpa [Addr.add] using World.cell?_spot h
  exact ⟨g, o, by rw [hspot]⟩
theorem parts_open {fuel : Nat} {cs : List Value} {y : DataW H × List MemPlace} (h : DataW.trod enc Tryz.prog W 0 (fun _ => true) true fuel 36 cs = some y) (hs : ∀ n ∈ y.1.weights Tryz.prog 36, n ≤ reachBytes) :
    ∃ (a : Option Addr) (n c : Nat) (P : List (Int × List Int)), cs = [.slice a n c] ∧ PsOk False W (fun _ => True) (.slice a n c) P ∧ P.length * 32 ≤ 140737488355328 ∧ (∀ p ∈ P, p.2.length * 8 ≤ 140737488355328) ∧ ∀ p ∈ P, ∀ x ∈ p.2, -9223372036854775808 ≤ x ∧ x ≤ 9223372036854775807 := by
  rcases Go.Deep.open_slice Tryz.underlying36 h with ⟨hcs, _⟩ | ⟨a, len, cap, m, n, D, Pl, hcs, _, hl, hm, hmm, rfl, hel⟩
  · exact ⟨none, 0, 0, [], hcs, ⟨[], ⟨none, 0, rfl, Nat.le_refl _, Nat.zero_le _, fun j hj => absurd hj (by simp)⟩, rfl, fun _ _ => trivial, fun i h1 => absurd h1 (by simp), fun e => e.elim⟩, by simp, fun x hx => (by cases hx), fun x hx => by cases hx⟩
  · have hmc : m = cap := by rw [hmm]; rfl
    have hw := hs _ (by rw [weights_slice Tryz.underlying36]; exact List.mem_cons_self)
    rw [bytesP] at hw
    simp only [List.length_map, List.length_range] at hw
    unfold reachBytes at hw
    have hc2 : Tryz.prog.cellsOf 51 = 2 := by kernel_rfl
    have spot0 : 0 < len → ∃ g o, a = ⟨g, o, none⟩ := fun hp => by
      obtain ⟨cs', h1, h2⟩ := hel 0 (by omega)
      rw [hc2] at h1
      obtain ⟨-, hlen, hcell⟩ := World.cells?_some h1
      obtain ⟨c0, c1, rfl⟩ := len2 hlen
      exact plain_at (hcell 0 (by omega))
    obtain ⟨f, hf⟩ := Go.Deep.choose_lt (α := Pt × List Int) (n := len) (p := fun i x => (Iz W (ptV x.1) x.2 ∧ x.2.length * 8 ≤ 140737488355328 ∧ ∀ u ∈ x.2, -9223372036854775808 ≤ u ∧ u ≤ 9223372036854775807) ∧ ∃ g o, a = ⟨g, o, none⟩ ∧ W.cell? ⟨g, o + i * 2, none⟩ = some (.int .i64 x.1.1) ∧ W.cell? ⟨g, o + i * 2 + 1, none⟩ = some (ptV x.1)) (fun i hi => by
      obtain ⟨cs', h1, h2⟩ := hel i (by omega)
      rw [hc2] at h1
      obtain ⟨-, hlen, hcell⟩ := World.cells?_some h1
      obtain ⟨c0, c1, rfl⟩ := len2 hlen
      obtain ⟨x, e0, e1, hx⟩ := part_open h2 (fun n hn => hs n (by
        rw [weights_slice Tryz.underlying36]
        exact List.mem_cons_of_mem _ (List.mem_append_left _ (weights_all_mem (List.mem_map_of_mem (List.mem_range.2 hi)) hn))))
      have q0 := hcell 0 (by omega)
      have q1 := hcell 1 (by omega)
      obtain ⟨g, o, rfl⟩ := spot0 (by omega)
      rw [Go.WideShapes.add_plain, Go.WideShapes.add_plain] at q0 q1
      rw [e0] at q0
      rw [e1] at q1
      exact ⟨x, hx, g, o, rfl, q0, q1⟩)
    have hl2 : ((List.range len).map (fun i => (f i).1)).length = len := by simp
    have hl3 : ((List.range len).map (fun i => ((f i).1.1, (f i).2))).length = len := by simp
    refine ⟨some a, len, cap, (List.range len).map (fun i => ((f i).1.1, (f i).2)), hcs, ⟨(List.range len).map (fun i => (f i).1), ⟨some a, cap, by rw [hl2], by rw [hl2]; exact hl, hm, fun j hj => ?_⟩, by rw [hl2, hl3], fun _ _ => trivial, fun i h1 h2 => ?_, fun e => e.elim⟩, by rw [hl3]; omega, fun p hp => ?_, fun p hp => ?_⟩
    · rw [hl2] at hj
      obtain ⟨-, g, o, rfl, q0, q1⟩ := hf j hj
      refine ⟨g, o, rfl, ?_⟩
      simp only [List.getElem_map, List.getElem_range]
      exact ⟨q0, q1⟩
    · rw [hl2] at h1
      simp only [List.getElem_map, List.getElem_range]
      exact ⟨by trivial, (hf i h1).1.1, fun _ _ => trivial⟩
    · obtain ⟨i, hi, rfl⟩ := List.mem_map.1 hp
      exact (hf i (List.mem_range.1 hi)).1.2.1
    · obtain ⟨i, hi, rfl⟩ := List.mem_map.1 hp
      exact (hf i (List.mem_range.1 hi)).1.2.2
theorem cmd_open {fuel : Nat} {cs : List Value} {y : DataW H × List MemPlace} (h : DataW.trod enc Tryz.prog W 0 (fun _ => true) true fuel 38 cs = some y) (hs : ∀ n ∈ y.1.weights Tryz.prog 38, n ≤ reachBytes) :
    ∃ c : Cm, cs = cmL c ∧ CmOk False W (fun _ => True) c := by
  obtain ⟨xs, m, -, rfl, hcl, hxl, hfs⟩ := DataW.trod_struct Tryz.underlying38 h
  have hc6 : Tryz.prog.cellsOf 38 = 6 := by kernel_rfl
  obtain ⟨c0, c1, c2, c3, c4, c5, rfl⟩ := len6 (hcl.trans hc6)
  obtain ⟨y0, y1, y2, y3, y4, rfl⟩ := len5 (hxl.trans rfl)
  obtain ⟨op, rfl, -⟩ := int_open (field_at (k := 1) (cs' := [c0]) (by kernel_rfl) rfl (hfs 0 _ rfl))
  obtain ⟨ix, gn, rfl, rfl, hb⟩ := ent_open (field_at (k := 2) (cs' := [c1, c2]) (by kernel_rfl) rfl (hfs 1 _ rfl))
  obtain ⟨kd, rfl, -⟩ := int_open (field_at (k := 1) (cs' := [c3]) (by kernel_rfl) rfl (hfs 2 _ rfl))
  obtain ⟨a4, n4, q4, V, e4, k1, k2, k3⟩ := ints_open (field_at (k := 1) (cs' := [c4]) (by kernel_rfl) rfl (hfs 3 _ rfl)) (fun n hn => hs n (by
    rw [weights_agg Tryz.underlying38]
    exact DataW.weights_mem_each (j := 3) (t := 35) (d := y3.1) rfl rfl n hn))
  obtain ⟨a5, n5, q5, P, e5, k4, k5, k6, k7⟩ := parts_open (field_at (k := 1) (cs' := [c5]) (by kernel_rfl) rfl (hfs 4 _ rfl)) (fun n hn => hs n (by
    rw [weights_agg Tryz.underlying38]
    exact DataW.weights_mem_each (j := 4) (t := 36) (d := y4.1) rfl rfl n hn))
  simp only [List.cons.injEq, and_true] at e4 e5
  subst e4 e5
  exact ⟨⟨op, ix, gn, kd, .slice a4 n4 q4, .slice a5 n5 q5, V, P⟩, rfl, ⟨k1, fun _ _ => trivial⟩, k4, ⟨k2, k5, k6, k3, k7, hb⟩, fun e => e.elim⟩
theorem step_open {fuel : Nat} {cs : List Value} {y : DataW H × List MemPlace} (h : DataW.trod enc Tryz.prog W 0 (fun _ => true) true fuel 40 cs = some y) (hs : ∀ n ∈ y.1.weights Tryz.prog 40, n ≤ reachBytes) :
    ∃ (m : Sm) (z0 z1 z2 z4 : Value), cs = [z0, z1, z2, .int .i64 m.s, z4, .int .i64 m.x, .int .i64 m.y] ++ cmL m.c ∧ InB (m.s, m.x) ∧ CmOk False W (fun _ => True) m.c := by
  obtain ⟨xs, n, -, rfl, hcl, hxl, hfs⟩ := DataW.trod_struct Tryz.underlying40 h
  have hc13 : Tryz.prog.cellsOf 40 = 13 := by kernel_rfl
  obtain ⟨c0, c1, c2, c3, c4, c5, c6, c7, c8, c9, c10, c11, c12, rfl⟩ := len13 (hcl.trans hc13)
  obtain ⟨y0, y1, y2, y3, y4, y5, y6, rfl⟩ := len7 (hxl.trans rfl)
  obtain ⟨s, rfl, hb0⟩ := int_open (field_at (k := 1) (cs' := [c3]) (by kernel_rfl) rfl (hfs 3 _ rfl))
  obtain ⟨x, u, rfl, rfl, hb⟩ := ent_open (field_at (k := 2) (cs' := [c5, c6]) (by kernel_rfl) rfl (hfs 5 _ rfl))
  obtain ⟨c, e, hc⟩ := cmd_open (field_at (k := 6) (cs' := [c7, c8, c9, c10, c11, c12]) (by kernel_rfl) rfl (hfs 6 _ rfl)) (fun n hn => hs n (by
    rw [weights_agg Tryz.underlying40]
    exact DataW.weights_mem_each (j := 6) (t := 38) (d := y6.1) rfl rfl n hn))
  refine ⟨⟨s, x, u, c⟩, c0, c1, c2, c4, ?_, ⟨hb0, hb.1⟩, hc⟩
  show [c0, c1, c2, .int .i64 s, c4, .int .i64 x, .int .i64 u, c7, c8, c9, c10, c11, c12] = _
  rw [← e]
  rfl
theorem steps_arg {a0 : Option Addr} {len0 cap0 : Nat} {d0 : DataW H} {p0 : List MemPlace} (h0 : DataW.Trod enc Tryz.prog W 0 (fun _ => true) true 22 (.slice a0 len0 cap0) d0 p0) (hs : ∀ n ∈ d0.weights Tryz.prog 22, n ≤ reachBytes) : ∃ g o l, l.length = len0 ∧ Sw W a0 g o l := by
  obtain ⟨fuel, hf⟩ := h0
  rcases Go.Deep.open_slice Tryz.underlying22 hf with ⟨hcs, _⟩ | ⟨a, len, cap, m, n, D, Pl, hcs, _, hl, hm, hmm, hd, hel⟩
  · simp [Value.cells] at hcs
    obtain ⟨rfl, rfl, rfl⟩ := hcs
    exact ⟨0, 0, [], rfl, fun h => absurd h (by simp), fun j hj => absurd hj (by simp)⟩
  · simp [Value.cells] at hcs
    obtain ⟨rfl, rfl, rfl⟩ := hcs
    obtain ⟨rfl, -⟩ : d0 = _ ∧ p0 = _ := by simpa using hd
    have hmc : m = cap0 := by rw [hmm]; rfl
    have hc13 : Tryz.prog.cellsOf 40 = 13 := by kernel_rfl
    have spot0 : 0 < len0 → ∃ g o, a = ⟨g, o, none⟩ := fun hp => by
      obtain ⟨cs', h1, h2⟩ := hel 0 (by omega)
      rw [hc13] at h1
      obtain ⟨-, hlen, hcell⟩ := World.cells?_some h1
      obtain ⟨c0, c1, c2, c3, c4, c5, c6, c7, c8, c9, c10, c11, c12, rfl⟩ := len13 hlen
      exact plain_at (hcell 0 (by omega))
    have each : ∀ i, i < len0 → ∃ x : Sm, ∃ g o, a = ⟨g, o, none⟩ ∧ g < W.heap.size ∧ SwAt W g o i x ∧ InB (x.s, x.x) ∧ CmOk False W (fun _ => True) x.c := fun i hi => by
      obtain ⟨cs', h1, h2⟩ := hel i (by omega)
      rw [hc13] at h1
      obtain ⟨-, hlen, hcell⟩ := World.cells?_some h1
      obtain ⟨x, z0, z1, z2, z4, rfl, hb, hc⟩ := step_open h2 (fun n hn => hs n (by
        rw [weights_slice Tryz.underlying22]
        exact List.mem_cons_of_mem _ (List.mem_append_left _ (weights_all_mem (List.mem_map_of_mem (List.mem_range.2 hi)) hn))))
      have q0 := hcell 0 (by omega)
      obtain ⟨g, o, rfl⟩ := spot0 (by omega)
      have q3 := hcell 3 (by omega)
      have q5 := hcell 5 (by omega)
      have q6 := hcell 6 (by omega)
      have q7 := hcell 7 (by omega)
      have q8 := hcell 8 (by omega)
      have q9 := hcell 9 (by omega)
      have q10 := hcell 10 (by omega)
      have q11 := hcell 11 (by omega)
      have q12 := hcell 12 (by omega)
      rw [Go.WideShapes.add_plain, Go.WideShapes.add_plain] at q0 q3 q5 q6 q7 q8 q9 q10 q11 q12
      exact ⟨x, g, o, rfl, World.block_lt_of_cell? W _ q3, ⟨q3, ⟨q5, q6⟩, q7, q8, q9, q10, q11, q12⟩, hb, hc⟩
    rcases Nat.eq_zero_or_pos len0 with hz | hp
    · exact ⟨0, 0, [], by rw [hz]; rfl, fun h => absurd h (by simp), fun j hj => absurd hj (by simp)⟩
    · obtain ⟨-, g, o, rfl, hg, -⟩ := each 0 hp
      haveI : Inhabited Sm := ⟨⟨0, 0, 0, ⟨0, 0, 0, 0, undef, undef, [], []⟩⟩⟩
      obtain ⟨f, hf2⟩ := Go.Deep.choose_lt (α := Sm) (n := len0) (p := fun i x => SwAt W g o i x ∧ InB (x.s, x.x) ∧ CmOk False W (fun _ => True) x.c) (fun i hi => by
        obtain ⟨x, g', o', e, -, hx⟩ := each i hi
        injection e with e1 e2
        subst e1 e2
        exact ⟨x, hx⟩)
      refine ⟨g, o, (List.range len0).map f, by simp, fun _ => ⟨rfl, hg⟩, fun j hj => ?_⟩
      have hj' : j < len0 := by simpa using hj
      simp only [List.getElem_map, List.getElem_range]
      exact hf2 j hj'
end
end Go.Proofs.YtfbhoemfabgjpaaGreat

/-
  Buffer: a row of commands with their keys; how many All has.
-/
namespace Go.Proofs.YtfbhoemfabgjpaaGreat
open Go.RowKit
set_option maxRecDepth 100000
/-- A region that draws its order: the condition on the world may grow on the way. -/
theorem wpAnyH_more {P : Program} {md : Region.Mode} {ops : Array Oper} {Q : Exit → Act → World → Prop} {S S' : World → Prop} (h : ∀ w, S' w → S w) :
    ∀ (fuel : Nat) (listed : Array Bool) (a : Act) (w : World), wpAnyH P md ops Q S' fuel listed a w → wpAnyH P md ops Q S fuel listed a w
  | 0, _, _, _, hw => hw
  | fuel + 1, _, _, _, hw => ⟨hw.1, fun i hi => wpOp_mono (fun _ _ hk => ⟨h _ hk.1, wpAnyH_more h fuel _ _ _ hk.2⟩) (hw.2 i hi)⟩
/-- What a row of commands leaves, key by key. -/
def LR (row : List ((Int × Int) × Cm)) : Int × Int → List Cm := fun x => (row.filter (fun p => decide (p.1 = x))).map (·.2)
theorem LR_nil : LR [] = fun _ => [] := rfl
theorem LR_push (row : List ((Int × Int) × Cm)) (k : Int × Int) (c : Cm) : (fun e => if e = k then LR row k ++ [c] else LR row e) = LR (row ++ [(k, c)]) := by
  funext e
  unfold LR
  rw [List.filter_append, List.map_append]
  by_cases h : e = k
  · subst h
    simp
  · have h2 : ¬ k = e := fun x => h x.symm
    simp [h, h2]
theorem LR_ne {row : List ((Int × Int) × Cm)} {p : (Int × Int) × Cm} (h : p ∈ row) : LR row p.1 ≠ [] := fun e => by
  have : p.2 ∈ LR row p.1 := List.mem_map.2 ⟨p, List.mem_filter.2 ⟨h, by simp⟩, rfl⟩
  rw [e] at this
  cases this
theorem LR_count : ∀ (row : List ((Int × Int) × Cm)) (ss : List (Int × Int)), ss.Nodup → (∀ p ∈ row, p.1 ∈ ss) → (ss.flatMap (LR row)).length = row.length
  | [], ss, _, _ => by
    have : ss.flatMap (LR []) = [] := List.flatMap_eq_nil_iff.2 (fun _ _ => rfl)
    rw [this]
    rfl
  | p :: t, ss, hn, hm => by
    have ih := LR_count t ss hn (fun q hq => hm q (List.mem_cons_of_mem _ hq))
    have key1 : ∀ ss : List (Int × Int), ss.Nodup → (ss.flatMap (LR (p :: t))).length = (ss.flatMap (LR t)).length + (if p.1 ∈ ss then 1 else 0) := by
      intro ss
      induction ss with
      | nil => intro _; rfl
      | cons x r ih2 =>
        intro hn
        have h1 := ih2 (List.nodup_cons.1 hn).2
        have h2 := (List.nodup_cons.1 hn).1
        rw [List.flatMap_cons, List.flatMap_cons, List.length_append, List.length_append, h1]
        by_cases ex : p.1 = x
        · subst ex
          rw [if_neg h2, if_pos List.mem_cons_self]
          have : (LR (p :: t) p.1).length = (LR t p.1).length + 1 := by simp [LR]
          omega
        · have : (LR (p :: t) x).length = (LR t x).length := by simp [LR, ex]
          rw [this]
          by_cases er : p.1 ∈ r
          · rw [if_pos er, if_pos (List.mem_cons_of_mem _ er)]
            omega
          · rw [if_neg er, if_neg (fun h => (List.mem_cons.1 h).elim ex er)]
            omega
    rw [key1 ss hn, if_pos (hm p List.mem_cons_self), ih, List.length_cons]
theorem LR_all {row : List ((Int × Int) × Cm)} {ss : List (Int × Int)} (h1 : ∀ x, x ∈ ss ↔ LR row x ≠ []) (h2 : ss.Pairwise ltT) : (allL (LR row) ss).length = row.length :=
  LR_count row ss (nodup_lt h2) (fun _p hp => (h1 _).2 (LR_ne hp))
end Go.Proofs.YtfbhoemfabgjpaaGreat

namespace Go.Proofs.YtfbhoemfabgjpaaGreat.Pak
open Go.RowKit
set_option maxRecDepth 100000

/-- string(b). -/
theorem conv_row (w : World) (a : Addr) (c : Nat) (l : List UInt8) (hcell : ∀ j (hj : j < l.length), w.cell? (a.add j) = some (.int .u8 (l[j]).toNat)) :
    (convert 47 9 (.slice (some a) l.length c)).run Tryz.prog w = .ok (.string ⟨l.toArray⟩) w := by
  have hl : (loadCells a l.length).run Tryz.prog w = .ok ((l.map fun b => (b.toNat : Int)).map (Value.int .u8)).toArray w := by
    have := run_loadCells_list (P := Tryz.prog) w a ((l.map fun b => (b.toNat : Int)).map (Value.int .u8)) (fun j v hj => by
      simp only [List.getElem?_map, Option.map_eq_some_iff] at hj
      obtain ⟨_, ⟨b, hb, rfl⟩, rfl⟩ := hj
      obtain ⟨hjl, rfl⟩ := List.getElem?_eq_some_iff.1 hb
      exact hcell j hjl)
    simpa using this
  rw [run_convert_bytes_string w 47 9 5 _ _ c Tryz.underlying47 Tryz.underlying5 Tryz.underlying9, run_bytesToString w _ _ c _ hl, foldl_push_bytes]
  have e : ((l.map fun b => (b.toNat : Int)).map fun n => UInt8.ofNat n.toNat) = l := by
    rw [List.map_map]
    conv => rhs; rw [← List.map_id l]
    apply List.map_congr_left
    intro b _
    simp
  rw [e]
  simp [ByteArray.empty, ByteArray.emptyWithCapacity]
  rfl
theorem conv_bs {w : World} {v : Value} {l : List UInt8} (h : Bs w v l) : (convert 47 9 v).run Tryz.prog w = .ok (.string ⟨l.toArray⟩) w := by
  obtain ⟨ao, c, rfl, h1, h2, h3⟩ := h
  cases ao with
  | none =>
    cases l with
    | nil =>
      rw [run_convert_bytes_nil w 47 5 Tryz.underlying47 Tryz.underlying5 _ c 9 Tryz.underlying9]
      rfl
    | cons b l =>
      obtain ⟨_, _, e, _⟩ := h3 0 (by simp)
      cases e
  | some a =>
    refine conv_row w a c l fun j hj => ?_
    obtain ⟨g, o, e, hc⟩ := h3 j hj
    cases e
    rw [show (⟨g, o, none⟩ : Addr).add j = ⟨g, o + j, none⟩ by simp [Addr.add]]
    exact hc

end Go.Proofs.YtfbhoemfabgjpaaGreat.Pak
