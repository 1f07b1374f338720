import Derived.Test.YtafmiolehlagkaaGreatGm1
import Derived.Test.YtafmiolehlagkaaGreatWSt
/-
  World: Snapshot.
-/
namespace Go.Proofs.YtafmiolehlagkaaGreat
open Go.RowKit
set_option maxRecDepth 100000
theorem partsL_sub : ∀ (ks : List Kind) (s k0 : Nat) (vals : List Int) (r : Nat × List Int), r ∈ partsL ks s k0 vals → ∀ z ∈ r.2, z ∈ vals
  | [], _, _, _, _, h => by cases h
  | kd :: t, s, k0, vals, r, h => by
    unfold partsL at h
    by_cases c : s.testBit k0 = true
    · rw [if_pos c] at h
      rcases List.mem_cons.1 h with rfl | h
      · exact fun z hz => List.mem_of_mem_take hz
      · exact fun z hz => List.mem_of_mem_drop (partsL_sub t s (k0 + 1) _ r h z hz)
    · rw [if_neg c] at h
      exact partsL_sub t s (k0 + 1) _ r h
theorem partsL_le : ∀ (ks : List Kind) (s k0 : Nat) (vals : List Int), (partsL ks s k0 vals).length ≤ ks.length
  | [], _, _, _ => Nat.le_refl _
  | kd :: t, s, k0, vals => by
    unfold partsL
    have h1 := partsL_le t s (k0 + 1) (vals.drop kd.2.length)
    have h2 := partsL_le t s (k0 + 1) vals
    split <;> simp only [List.length_cons] <;> omega
/-- What a world holds of one, as it is written. -/
def contB (ks : List Kind) (f : Int × Int → Option Nat) (T : Nat → Ts) (e : Int × Int) : List UInt8 :=
  match f e with
  | none => []
  | some s => wrB s (partsL ks s 1 (rowOf (T s).2 ((T s).1.idxOf e)))
def snapB (ks : List Kind) (gs fr : List Nat) (f : Int × Int → Option Nat) (T : Nat → Ts) (E : List (Int × Int)) : List UInt8 := Pak.Rw.rowB (zi gs) ++ Pak.Rw.rowB (zi fr) ++ E.flatMap (contB ks f T)
/-- All that live, by their numbers. -/
def Livers (f : Int × Int → Option Nat) (E : List (Int × Int)) : Prop := E.Pairwise (fun x y => x.1 ≤ y.1) ∧ E.Nodup ∧ (∀ e, InB e → ((f e).isSome = true ↔ e ∈ E)) ∧ ∀ e ∈ E, InB e
theorem rowB_len {l : List Int} (h : Pak.Rw.AllFit l) (hl : l.length ≤ 1048576) : (Pak.Rw.rowB l).length ≤ 20 * l.length + 30 := by
  unfold Pak.Rw.rowB
  split
  · simp
  · have h1 := Pak.Rw.formB_length h hl (Pak.Rw.best l)
    have h2 := Lib.uvarint_length64 (show l.length < 18446744073709551616 by omega)
    rw [List.length_append, List.length_cons]
    omega
theorem zi_fit {gs : List Nat} (h : ∀ x ∈ gs, x ≤ 2000000) : Pak.Rw.AllFit (zi gs) := fun z hz => by
  simp only [zi, List.mem_map] at hz
  obtain ⟨x, hx, rfl⟩ := hz
  have := h x hx
  unfold Pak.Rw.Fits
  omega
theorem cont_of {ks : List Kind} {f : Int × Int → Option Nat} {q : Nat → Option Nat} {T : Nat → Ts} (hw : Wi ks f q T) {e : Int × Int} {s j : Nat} (hf : f e = some s) (hj : ∃ hj : j < (T s).1.length, (T s).1[j] = e) : contB ks f T e = wrB s (partsL ks s 1 (rowOf (T s).2 j)) := by
  obtain ⟨hj, hx⟩ := hj
  obtain ⟨_, ⟨g, hq⟩, _⟩ := hw.1 e s hf
  have hn := (hw.2 s g hq).2.2.1
  have : (T s).1.idxOf e = j := by
    have h1 : (T s).1.idxOf e < (T s).1.length := List.idxOf_lt_length_iff.2 (hx ▸ List.getElem_mem hj)
    exact nodup_at hn h1 hj ((List.getElem_idxOf h1).trans hx.symm)
  unfold contB
  rw [hf]
  dsimp only
  rw [this]
/-- Rows in memory of their own. -/
def Rk (B : Nat) (W : World) (ks : List Kind) (f : Int × Int → Option Nat) (T : Nat → Ts) (v : Value) (R : List Rt) : Prop := W.ownsRow B 87 3 v R.length (rz R) ∧ ∀ r ∈ R, Rw1 B W ks f T (fun _ => False) r
section
variable {B : Nat} {W W' : World} {ks : List Kind} {f : Int × Int → Option Nat} {T : Nat → Ts} {v : Value} {R : List Rt}
theorem Rk.later (h : Rk B W ks f T v R) (hb : Below W.heap.size W W') : Rk B W' ks f T v R := ⟨own_later h.1 hb, fun r hr => (h.2 r hr).grown (grown_later hb) (fun k e => by cases e)⟩
theorem Rk.grown {b : Value} {B' n : Nat} {xs : List Value} (h : Rk B W ks f T v R) (hb : W.ownsRow B' 5 1 b n xs) (hg : W.grownBy W' b.ownBlock) : Rk B W' ks f T v R := by
  refine ⟨own_kept h.1 hg (fun k e e2 => own_kinds h.1 hb (by decide) e e2), fun r hr => ?_⟩
  obtain ⟨s, j, L, h1, h2, h3, h4, h5, h6⟩ := h.2 r hr
  refine ⟨s, j, L, h1, h2, own_kept h3 hg (fun k e e2 => own_kinds h3 hb (by decide) e e2), h4.grown hg (fun p hp k e e2 => ?_), h5, h6⟩
  obtain ⟨m, hm, rfl⟩ := List.getElem_of_mem hp
  exact own_kinds (h4.2 m hm (by rw [← h4.1]; exact hm)).2 hb (by decide) e e2
end
section
variable {w w' : World} {own : Nat → Nat} {gw gp gm gt M M' : Nat} {vk : Value} {ks : List Kind} {gs fr gs' fr' : List Nat} {f f' : Int × Int → Option Nat} {q q' : Nat → Option Nat} {T T' : Nat → Ts}
theorem fm_rows (R : List Rt) (i : Nat) (hi : i < R.length) (g : Int × Int → List UInt8) : ((R.take (i + 1)).map entR).flatMap g = ((R.take i).map entR).flatMap g ++ g (entR R[i]) := by
  rw [List.take_succ_eq_append_getElem hi, List.map_append, List.flatMap_append]
  simp
theorem wrote (h : Wx 0 w own gw vk gp gm gt M ks gs fr f q T) (hw : Wi ks f q T) (hks : ks.length ≤ 12) (hfit : ∀ s g, q s = some g → ∀ c ∈ (T s).2, Pak.Rw.AllFit c) {B : Nat} {r : Rt} (hr : Rw1 B w ks f T (fun _ => False) r) (hin : InB (entR r)) :
    (Calls Tryz.prog 53 #[.pointer (some ⟨gw, 0, none⟩), .agg #[.int .i64 r.1, .int .i64 r.2.1, rtV r]] w fun e w' => ∃ v, e = .returned v ∧ w'.ownsRow w.heap.size 5 1 v (contB ks f T (entR r)).length (Lib.byteCells (contB ks f T (entR r))) ∧ Below w.heap.size w w') ∧ 0 < (contB ks f T (entR r)).length ∧ (contB ks f T (entR r)).length ≤ 13000 := by
  obtain ⟨s, j, L, h1, h2, h3, h4, -, -⟩ := hr
  rw [cont_of hw h1 h2]
  obtain ⟨hs, ⟨g, hq⟩, -⟩ := hw.1 _ s h1
  obtain ⟨-, k2, -, -, -, -⟩ := hw.2 s g hq
  have hv : Pak.Rw.AllFit (rowOf (T s).2 j) := fun z hz => by
    simp only [rowOf, List.mem_map] at hz
    obtain ⟨c, hc, rfl⟩ := hz
    exact Pak.Rw.getD_fits (hfit s g hq c hc) j
  have h48 : (rowOf (T s).2 j).length ≤ 48 := by
    rw [rowOf_len]
    obtain ⟨n, -, ht⟩ := h.tb hq
    obtain ⟨lab, vr, gm', vc, cs, f', -, -, -, -, -, -, h48⟩ := ht
    exact h48
  have hR : ∀ r ∈ partsL ks s 1 (rowOf (T s).2 j), Pak.Rw.AllFit r.2 ∧ r.2.length ≤ 100 := fun r hr => by
    refine ⟨fun z hz => hv z (partsL_sub ks s 1 _ r hr z hz), ?_⟩
    have hfl := partsL_flat ks s 1 (rowOf (T s).2 j) (by rw [rowOf_len, k2])
    have : r.2.length ≤ ((partsL ks s 1 (rowOf (T s).2 j)).flatMap (·.2)).length := by
      obtain ⟨i, hi, rfl⟩ := List.getElem_of_mem hr
      have := (List.sublist_flatten_of_mem (L := (partsL ks s 1 (rowOf (T s).2 j)).map (·.2)) (List.mem_map.2 ⟨_, List.getElem_mem hi, rfl⟩)).length_le
      rwa [List.flatMap_def]
    rw [hfl] at this
    omega
  have hn := partsL_le ks s 1 (rowOf (T s).2 j)
  refine ⟨written_any h r.1 r.2.1 hin s h1 hs B _ _ _ L _ h3 h4 hR (by omega), ?_, ?_⟩
  · unfold wrB
    rw [List.length_append]
    have : 0 < (Lib.uvarint s).length := by
      rw [Lib.uvarint]
      split <;> simp
    omega
  · have := wr_len hs hR
    omega
end
end Go.Proofs.YtafmiolehlagkaaGreat

/-
  World: Snapshot's walk.
-/
namespace Go.Proofs.YtafmiolehlagkaaGreat
open Go.RowKit
set_option maxRecDepth 100000
section
variable {w w' : World} {own : Nat → Nat} {gw gp gm gt M M' : Nat} {vk : Value} {ks : List Kind} {gs fr gs' fr' : List Nat} {f f' : Int × Int → Option Nat} {q q' : Nat → Option Nat} {T T' : Nat → Ts}
set_option maxHeartbeats 8000000 in
theorem snapshot_any (h : Wx 0 w own gw vk gp gm gt M ks gs fr f q T) (hw : Wi ks f q T) (hks : ks.length ≤ 12) (hfit : ∀ s g, q s = some g → ∀ c ∈ (T s).2, Pak.Rw.AllFit c) (hcnt : ∀ E : List (Int × Int), E.Nodup → (∀ e ∈ E, (f e).isSome = true) → E.length ≤ 200) :
    Calls Tryz.prog 13 #[.pointer (some ⟨gw, 0, none⟩)] w fun e w' => ∃ v, e = .returned v ∧ (∃ E, Livers f E ∧ w'.ownsRow w.heap.size 5 1 v (snapB ks gs fr f T E).length (Lib.byteCells (snapB ks gs fr f T E))) ∧ Below w.heap.size w w' := by
  obtain ⟨i0, hi0, hz0, hz1, hz2⟩ := info_parts Pak.info5
  obtain ⟨-, c1, -, -⟩ := h.cells
  have hpl := h.pl
  have hok := hpl.2
  have hgl : gs.length ≤ 200 := hok.2.2.1
  have hfl : fr.length ≤ 200 := Nat.le_trans hok.free_len hgl
  have hgf : Pak.Rw.AllFit (zi gs) := zi_fit (fun x hx => by have := (hok.2.2.2.1 x hx).2; omega)
  have hff : Pak.Rw.AllFit (zi fr) := zi_fit (fun x hx => by have := (hok.2.2.2.2.2 x hx).1; omega)
  have J1 := hide (state_any hpl)
  have JR : Hid (∀ W, Below w.heap.size w W → Calls Tryz.prog 29 #[.pointer (some ⟨gw, 0, none⟩)] W fun e w' => ∃ v, e = .returned v ∧ (∃ R, Rs W.heap.size w' ks f T v R) ∧ Below W.heap.size W w') := fun W hW => rows_any (h.later hW) hw hks hcnt
  have JW : Hid (∀ (W : World) (B : Nat) (r : Rt), Below w.heap.size w W → Rw1 B W ks f T (fun _ => False) r → InB (entR r) → (Calls Tryz.prog 53 #[.pointer (some ⟨gw, 0, none⟩), .agg #[.int .i64 r.1, .int .i64 r.2.1, rtV r]] W fun e w' => ∃ v, e = .returned v ∧ w'.ownsRow W.heap.size 5 1 v (contB ks f T (entR r)).length (Lib.byteCells (contB ks f T (entR r))) ∧ Below W.heap.size W w') ∧ 0 < (contB ks f T (entR r)).length ∧ (contB ks f T (entR r)).length ≤ 13000) := fun W B r hW hr hin => wrote (h.later hW) hw hks hfit hr hin
  have HG := hide hgf
  have HFF := hide hff
  have HC := hide hcnt
  clear hpl hok hw hfit h hgf hff hcnt
  go_enter Tryz.func13, Tryz.ntmps13
  go_wp2_with fail
  refine J1.out.mono ?_
  rintro e w1 ⟨v1, v2, rfl, o1, o2, -, hb1⟩
  have J2 := hide (wide_any o1 (by omega))
  have O2 := hide o2
  obtain ⟨a1, n1, k1, rfl⟩ := own_slice o1
  obtain ⟨a2, n2, k2, rfl⟩ := own_slice o2
  have HB1 := hide hb1
  clear o1 o2 hb1 J1 c1
  go_wp2_with fail
  refine J2.out.mono ?_
  rintro e w2 ⟨v3, rfl, o3, hb2⟩
  have J3 := hide (Pak.putRow_any (.slice none 0 0) v3 [] (zi gs) w2 (Pak.Bs.nil _) (own_ns (by rw [zi_len]; exact o3)) HG.out (by rw [zi_len]; omega) (by simp))
  have HB2 := hide (below_on HB1.out hb2)
  have O2' := hide (own_later O2.out hb2)
  obtain ⟨a3, n3, k3, rfl⟩ := own_slice o3
  clear o3 hb2 J2 O2
  go_wp2_with fail
  refine J3.out.mono ?_
  rintro e w3 ⟨v4, rfl, o4, hb3⟩
  have O4 : Hid (w3.ownsRow w.heap.size 5 1 v4 (Pak.Rw.rowB (zi gs)).length (Lib.byteCells (Pak.Rw.rowB (zi gs)))) := by
    have := own_lower o4 HB2.out.size
    unfold Hid
    simpa using this
  have J4 := hide (wide_any (own_later O2'.out hb3) (by omega))
  have HB3 := hide (below_on HB2.out hb3)
  obtain ⟨a4, n4, k4, rfl⟩ := own_slice o4
  clear o4 hb3 J3 O2'
  go_wp2_with fail
  refine J4.out.mono ?_
  rintro e w4 ⟨v5, rfl, o5, hb4⟩
  have hgB := rowB_len HG.out (by rw [zi_len]; omega)
  rw [zi_len] at hgB
  have J5 := hide (Pak.putRow_any (.slice a4 n4 k4) v5 (Pak.Rw.rowB (zi gs)) (zi fr) w4 (bs_own (own_later O4.out hb4) rfl) (own_ns (by rw [zi_len]; exact o5)) HFF.out (by rw [zi_len]; omega) (by omega))
  have HB4 := hide (below_on HB3.out hb4)
  obtain ⟨a5, n5, k5, rfl⟩ := own_slice o5
  clear o5 hb4 J4 O4
  go_wp2_with fail
  refine J5.out.mono ?_
  rintro e w5 ⟨v6, rfl, o6, hb5⟩
  have O6 : Hid (w5.ownsRow w.heap.size 5 1 v6 (Pak.Rw.rowB (zi gs) ++ Pak.Rw.rowB (zi fr)).length (Lib.byteCells (Pak.Rw.rowB (zi gs) ++ Pak.Rw.rowB (zi fr)))) := by
    rw [List.length_append]
    exact own_lower o6 HB4.out.size
  have HB5 := hide (below_on HB4.out hb5)
  obtain ⟨a6, n6, k6, rfl⟩ := own_slice o6
  have hfB := rowB_len HFF.out (by rw [zi_len]; omega)
  rw [zi_len] at hfB
  have hbl : (Pak.Rw.rowB (zi gs) ++ Pak.Rw.rowB (zi fr)).length ≤ 10000 := by rw [List.length_append]; omega
  clear o6 hb5 J5 hgB hfB
  go_wp2_with fail
  refine (JR.out w5 HB5.out).mono ?_
  rintro e w6 ⟨v7, rfl, ⟨R, hRs⟩, hb6⟩
  obtain ⟨r1, r2, r3, r4, r5, r6⟩ := hRs
  have hRl : R.length ≤ 200 := by
    have := HC.out _ r3 (fun e he => by
      obtain ⟨r, hr, rfl⟩ := List.mem_map.1 he
      exact (r4 _ (r6 r hr)).2 (List.mem_map.2 ⟨r, hr, rfl⟩))
    rwa [List.length_map] at this
  have HE : Hid (Livers f (R.map entR)) := ⟨List.pairwise_map.2 (r2.imp (fun h => h)), r3, r4, fun e he => by
    obtain ⟨r, hr, rfl⟩ := List.mem_map.1 he
    exact r6 r hr⟩
  have HRK : Hid (Rk w.heap.size w6 ks f T v7 R) := ⟨own_lower r1 HB5.out.size, fun r hr => ((r5 r hr).off (fun _ _ _ e => e.elim)).low HB5.out.size⟩
  have HRI : Hid (∀ r ∈ R, InB (entR r)) := r6
  have O7 : Hid (w6.ownsRow w.heap.size 5 1 (.slice a6 n6 k6) (snapB ks gs fr f T ((R.take 0).map entR)).length (Lib.byteCells (snapB ks gs fr f T ((R.take 0).map entR)))) := by
    have := own_later O6.out hb6
    unfold Hid
    simpa [snapB] using this
  have HB6 := hide (below_on HB5.out hb6)
  have hsl : ∀ i, i ≤ R.length → i ≤ 200 := fun i hi => by omega
  obtain ⟨a7, k7, rfl⟩ := own_len r1
  have hcap := own_cap r1
  clear r1 r2 r3 r4 r5 r6 hb6 O6 JR
  go_wp2_with fail
  go_loopw [5, 26] (fun v5 v26 W => ∃ i : Nat, i ≤ R.length ∧ v26 = .int .i64 (i : Int) ∧ (snapB ks gs fr f T ((R.take i).map entR)).length ≤ 10000 + 13000 * i ∧ Hid (W.ownsRow w.heap.size 5 1 v5 (snapB ks gs fr f T ((R.take i).map entR)).length (Lib.byteCells (snapB ks gs fr f T ((R.take i).map entR)))) ∧ Hid (Rk w.heap.size W ks f T (.slice a7 R.length k7) R) ∧ Hid (Below w.heap.size w W)) (fun _ v26 _ => R.length - (intOf v26).toNat)
  case atStart => exact ⟨0, Nat.zero_le _, rfl, by simp only [snapB, List.take_zero, List.map_nil, List.flatMap_nil, List.append_nil]; omega, O7, HRK, HB6⟩
  case round =>
    obtain ⟨i, hil, rfl, hlen, HO, HK, HB⟩ := hrel
    by_cases hlt : i < R.length
    · have t1 : (i : Int) < (R.length : Int) := by omega
      obtain ⟨g, c', e', -, -⟩ := own_form HK.out.1 (by omega)
      simp only [Value.slice.injEq] at e'
      obtain ⟨rfl, -, rfl⟩ := e'
      obtain ⟨y1, y2, y3⟩ := rz_at R i hlt
      have e1 := HK.out.1.cellAt (i * 3) (by omega)
      have e2 := HK.out.1.cellAt (i * 3 + 1) (by omega)
      have e3 := HK.out.1.cellAt (i * 3 + 2) (by omega)
      rw [y1] at e1
      rw [y2] at e2
      rw [y3] at e3
      have hr := HK.out.2 _ (List.getElem_mem hlt)
      have hin := HRI.out _ (List.getElem_mem hlt)
      have HPU : Hid (snapB ks gs fr f T ((R.take (i + 1)).map entR) = snapB ks gs fr f T ((R.take i).map entR) ++ contB ks f T (entR R[i])) := by
        unfold snapB Hid
        rw [fm_rows R i hlt, ← List.append_assoc]
      generalize snapB ks gs fr f T ((R.take i).map entR) = b0 at *
      generalize R[i] = r at *
      obtain ⟨x, y, av, nv, cv⟩ := r
      have BP : Hid (Below w.heap.size w (wr.alloc (.cells #[.int .i64 x, .int .i64 y, .slice av nv cv] 87))) := below_on HB.out (below_alloc wr _)
      obtain ⟨jw, l1, l2⟩ := JW.out (wr.alloc (.cells #[.int .i64 x, .int .i64 y, .slice av nv cv] 87)) w.heap.size (x, y, av, nv, cv) BP.out (hr.grown (grown_later (below_alloc wr _)) (fun k e => by cases e)) hin
      have J8 := hide jw
      simp only [rtV] at J8
      generalize contB ks f T (entR (x, y, av, nv, cv)) = l8 at *
      obtain ⟨a0, n0, c0, rfl⟩ := own_slice HO.out
      clear hr hin jw y1 y2 y3
      go_wp2_with fail
      refine J8.out.mono ?_
      rintro e w8 ⟨v8, rfl, o8, hb8⟩
      obtain ⟨n8, hn8⟩ : ∃ n, n = l8.length := ⟨_, rfl⟩
      rw [← hn8] at o8 l1 l2
      obtain ⟨g8, c8, rfl, -, -⟩ := own_form o8 (by omega)
      have HN8 := hide hn8
      have O8 : Hid (∀ j u, (Lib.byteCells l8)[j]? = some u → w8.cell? ((⟨g8, 0, none⟩ : Addr).add j) = some u) := fun j u hj => by
        have hj2 : j < l8.length := by
          have := (List.getElem?_eq_some_iff.1 hj).1
          rwa [Lib.byteCells_length] at this
        rw [add_at, Nat.zero_add, o8.cellAt j (by omega)]
        exact hj
      have OB : Hid (w8.ownsRow w.heap.size 5 1 (.slice a0 n0 c0) b0.length (Lib.byteCells b0)) := own_later (own_later HO.out (below_alloc wr _)) hb8
      have HK8 : Hid (Rk w.heap.size w8 ks f T (.slice (some ⟨g, 0, none⟩) R.length k7) R) := (HK.out.later (below_alloc wr _)).later hb8
      have HB8 := hide (below_on BP.out hb8)
      clear hn8 o8 hb8 J8 HK HB HO BP
      go_wp2_with (at_builtin; refine wpList_append_own_at _ rfl _ _ 51 rfl w.heap.size 5 i0 (.int .u8 0) 1 1 Tryz.underlying51 hi0 hz0 hz1 hz2 rfl (by decide) _ b0.length (Lib.byteCells b0) rfl OB.out ⟨g8, 0, none⟩ n8 c8 (Lib.byteCells l8) rfl ?d1 O8.out (Pak.byteCells_one l8) ?d2 ?d3 HB8.out.size ?_)
      case d1 => rw [Lib.byteCells_length, ← HN8.out]; omega
      case d2 => unfold maxLen; omega
      case d3 => omega
      intro v9 w9 o9 hg9 _ _
      have O9 : Hid (w9.ownsRow w.heap.size 5 1 v9 (snapB ks gs fr f T ((R.take (i + 1)).map entR)).length (Lib.byteCells (snapB ks gs fr f T ((R.take (i + 1)).map entR)))) := by
        rw [HPU.out, List.length_append, Lib.byteCells_append, ← HN8.out]
        exact o9
      have HL9 : Hid ((snapB ks gs fr f T ((R.take (i + 1)).map entR)).length ≤ 10000 + 13000 * (i + 1)) := by
        rw [HPU.out, List.length_append, ← HN8.out]
        unfold Hid
        omega
      have HK9 := hide (HK8.out.grown OB.out hg9)
      have HB9 : Hid (Below w.heap.size w w9) := HB8.out.grown hg9 HB8.out.size (fun k e => (OB.out.lt k e).1)
      obtain ⟨a9, n9, c9, rfl⟩ := own_slice O9.out
      clear o9 hg9 OB O8 HK8 HB8 HPU
      go_wp2_with fail
      go_roundw
      case rel => exact ⟨i + 1, by omega, by go_num, HL9.out, O9, HK9, HB9⟩
      case measure => simp [intOf]; omega
    · obtain rfl : i = R.length := by omega
      have t1 : ¬ (R.length : Int) < (R.length : Int) := by omega
      have ho := HO.out
      rw [List.take_length] at ho
      have HO9 := hide ho
      clear ho HO hlen
      obtain ⟨a9, n9, c9, rfl⟩ := own_slice HO9.out
      go_wp2_with fail
      go_ret
      exact ⟨_, rfl, ⟨_, HE.out, HO9.out⟩, HB.out⟩
end
end Go.Proofs.YtafmiolehlagkaaGreat

/-
  World: Add, its walk.
-/
namespace Go.Proofs.YtafmiolehlagkaaGreat
open Go.RowKit
set_option maxRecDepth 100000
section
variable {w w' : World} {own : Nat → Nat} {gw gp gm gt M M' : Nat} {vk : Value} {ks : List Kind} {gs fr gs' fr' : List Nat} {f f' : Int × Int → Option Nat} {q q' : Nat → Option Nat} {T T' : Nat → Ts}
/-- What Add leaves. -/
def Added (w w' : World) (own : Nat → Nat) (gw : Nat) (vk : Value) (gp gm gt M : Nat) (ks : List Kind) (gs fr : List Nat) (f : Int × Int → Option Nat) (q : Nat → Option Nat) (T : Nat → Ts) (e : Int × Int) (s i : Nat) (k : Nat) (vals : List Int) : Prop :=
  ∃ (vals' : List Int) (g : Nat) (own' : Nat → Nat), Wx 0 w' own' gw vk gp gm gt (M + 4) ks gs fr (fun y => if y = e then some (s ||| 2 ^ k) else if y = e then none else f y) (fun y => if y = s ||| 2 ^ k then some g else lessQ q T s y) (moreT (lessQ q T s) (lessT T s i) (s ||| 2 ^ k) e vals') ∧ Wk own own' w w' ∧ Wi ks (fun y => if y = e then some (s ||| 2 ^ k) else if y = e then none else f y) (fun y => if y = s ||| 2 ^ k then some g else lessQ q T s y) (moreT (lessQ q T s) (lessT T s i) (s ||| 2 ^ k) e vals') ∧ vals'.length = fsum ks (s ||| 2 ^ k) 1 ∧ ∀ r, r ∈ partsL ks (s ||| 2 ^ k) 1 vals' ↔ r ∈ partsL ks s 1 (rowOf (T s).2 i) ∨ r = (k, vals)
theorem infoPt : (Tryz.prog.info? 32).map (fun i => (i.zero, i.size, i.bytes)) = some (some (.agg #[.int .i64 0, .slice none 0 0]), 2, 32) := by kernel_rfl
set_option maxHeartbeats 8000000 in
theorem wadd_any (h : Wx 0 w own gw vk gp gm gt M ks gs fr f q T) (hw : Wi ks f q T) (a b x : Int) (hib : InB (a, b)) (hks : ks.length ≤ 12) (hk4 : ∀ x ∈ ks, x.2.length ≤ 4) (s g i : Nat) (hf : f (a, b) = some s) (hq : q s = some g) (hi : i < (T s).1.length) (hx : (T s).1[i] = (a, b)) (hcnt : ∀ E : List (Int × Int), E.Nodup → (∀ e ∈ E, (f e).isSome = true) → E.length ≤ 200) (hM : M ≤ 800000)
    (av : Option Addr) (nv cv : Nat) (vals : List Int) (hvs : Iz w (.slice av nv cv) vals) (hav : av = none → (nv, cv) = (0, 0)) (hv0 : ∀ k, (Value.slice av nv cv).ownBlock = some k → own k = 0 ∧ k < w.heap.size) (hl : livesOf gs fr a b = true) (hz : comeS ks s x nv = 0) :
    Calls Tryz.prog 27 #[.pointer (some ⟨gw, 0, none⟩), .agg #[.int .i64 a, .int .i64 b], .agg #[.int .i64 x, .slice av nv cv]] w fun e w' => e = .returned (.int .i64 0) ∧ Added w w' own gw vk gp gm gt M ks gs fr f q T (a, b) s i x.toNat vals := by
  obtain ⟨i0, hi0, hz0, hz1, hz2⟩ := info_parts infoPt
  obtain ⟨⟨hs, hsb⟩, hcol, -, -, -, -⟩ := hw.2 s g hq
  obtain ⟨w2, hw2⟩ : ∃ X, X = (w.alloc (.cells #[.int .i64 a, .int .i64 b] 29)).alloc (.cells #[.int .i64 x, .slice av nv cv] 32) := ⟨_, rfl⟩
  have B2 : Hid (Below w.heap.size w w2) := hw2 ▸ below_on (below_alloc w _) (below_alloc _ _)
  have H2 := hide (h.later B2.out)
  have J1 := hide (wlives_any H2.out a b)
  rw [hl] at J1
  have hx1 : w2.heap[w.heap.size]? = some (.cells #[.int .i64 a, .int .i64 b] 29 (0, 0)) := by
    rw [hw2]
    exact ((below_alloc _ _).block w.heap.size (by simp)).trans (heap_alloc_new w _)
  have hx2 : w2.heap[w.heap.size + 1]? = some (.cells #[.int .i64 x, .slice av nv cv] 32 (0, 0)) := by
    have := heap_alloc_new (w.alloc (.cells #[.int .i64 a, .int .i64 b] 29)) (.cells #[.int .i64 x, .slice av nv cv] 32)
    rw [hw2]
    simpa using this
  have HW : Hid (∀ W, Below w2.heap.size w2 W → (Instr.lookup 106 (.map (some gm)) (.agg #[.int .i64 a, .int .i64 b]) false).run Tryz.prog W = .ok (.int .i64 (s : Int)) W ∧ W.cell? ⟨gw, 2, none⟩ = some (.map (some gm)) ∧ W.cell? ⟨w.heap.size, 0, none⟩ = some (.int .i64 a) ∧ W.cell? ⟨w.heap.size, 1, none⟩ = some (.int .i64 b) ∧ W.cell? ⟨w.heap.size + 1, 0, none⟩ = some (.int .i64 x) ∧ W.cell? ⟨w.heap.size + 1, 1, none⟩ = some (.slice av nv cv)) := fun W hW => by
    have hx := H2.out.later hW
    have h5 := (hW.block _ (lt_of_block hx2)).trans hx2
    refine ⟨hx.mp.look1 a b hib hf, hx.cells.2.2.1, (kx_cells hx1 hW).1, (kx_cells hx1 hW).2, ?_, ?_⟩ <;> rw [cell_of_row W _ _ _ 32 (0, 0) h5] <;> rfl
  have JM : Hid (∀ W, Below w2.heap.size w2 W → Calls Tryz.prog 74 #[.pointer (some ⟨gw, 0, none⟩), .int .i64 (s : Int), .agg #[.int .i64 x, .slice av nv cv]] W fun e w' => e = .returned (.int .i64 0) ∧ Below W.heap.size W w') := fun W hW => by
    have hx := H2.out.later hW
    have := maycome_any hx.2.2.1 hx.2.2.2.1.kr hks s hs x av nv cv
    rw [hz] at this
    exact this
  have JP : Hid (∀ W, Below w2.heap.size w2 W → Calls Tryz.prog 78 #[.pointer (some ⟨gw, 0, none⟩), .agg #[.int .i64 a, .int .i64 b]] W fun e w' => ∃ v, e = .returned v ∧ ∃ L, L.length ≤ 12 ∧ w'.ownsRow W.heap.size 32 2 v L.length (pz L) ∧ Pv W.heap.size w' L (partsL ks s 1 (rowOf (T s).2 i)) ∧ Below W.heap.size W w') := fun W hW => by
    refine (parts_any (H2.out.later hW) a b hib hks s g i hf hq hs hi hx hcol).mono ?_
    rintro e w' ⟨v, rfl, L, l1, l2, l3⟩
    refine ⟨v, rfl, L, ?_, l1, l2, l3⟩
    rw [l2.1]
    have hn := partsL_pair ks s 1 (rowOf (T s).2 i)
    have hn2 : ((partsL ks s 1 (rowOf (T s).2 i)).map (fun r => r.1 - 1)).Nodup := List.pairwise_map.2 (List.Pairwise.imp_of_mem (fun {x y} hx hy hlt => by
      have a1 := partsL_mem ks s 1 _ x hx
      have a2 := partsL_mem ks s 1 _ y hy
      omega) hn)
    have := nodup_len 12 _ hn2 (fun y hy => by
      obtain ⟨r, hr, rfl⟩ := List.mem_map.1 hy
      have := partsL_mem ks s 1 _ r hr
      omega)
    rwa [List.length_map] at this
  have JD : Hid (∀ (W : World) (v : Value) (L : List Pt), Ap1 w W ks s (rowOf (T s).2 i) (x, av, nv, cv) v L → W.heap[w.heap.size]? = some (.cells #[.int .i64 a, .int .i64 b] 29 (0, 0)) → Calls Tryz.prog 80 #[.pointer (some ⟨gw, 0, none⟩), .agg #[.int .i64 a, .int .i64 b]] W fun e W' => e = .returned (.tuple #[]) ∧ Hid (Calls Tryz.prog 67 #[.pointer (some ⟨gw, 0, none⟩), .agg #[.int .i64 a, .int .i64 b], v] W' fun e w' => e = .returned (.tuple #[]) ∧ Added w w' own gw vk gp gm gt M ks gs fr f q T (a, b) s i x.toNat vals) ∧ W'.cell? ⟨w.heap.size, 0, none⟩ = some (.int .i64 a) ∧ W'.cell? ⟨w.heap.size, 1, none⟩ = some (.int .i64 b)) := fun W v L hA hkx => by
    refine (drop_any (h.later hA.2.2) a b hib s g i hf hq hs hi hx (by omega)).mono ?_
    rintro e W' ⟨rfl, own1, d1, d2⟩
    have hnl : ¬ (rel own w 0 w.heap.size ≠ 0) := fun e => e (rel_new (Nat.le_refl _))
    refine ⟨rfl, ?_, kx_cells (d2.mv.at hkx hnl) (Below.refl _ W')⟩
    have hc2 : ∀ E : List (Int × Int), E.Nodup → (∀ e ∈ E, ((fun y => if y = (a, b) then none else f y) e).isSome = true) → E.length < 200 := fun E e1 e2 => by
      have := hcnt (E ++ [(a, b)]) (by
        rw [List.nodup_append]
        refine ⟨e1, by simp, fun y hy z hz e => ?_⟩
        simp only [List.mem_singleton] at hz
        have := e2 y hy
        rw [e, hz] at this
        simp at this) (fun y hy => by
        rcases List.mem_append.1 hy with hy | hy
        · have := e2 y hy
          by_cases c : y = (a, b)
          · simp [c] at this
          · simpa [c] using this
        · rw [List.mem_singleton.1 hy, hf]; rfl)
      rw [List.length_append, List.length_singleton] at this
      omega
    exact hA.put ((rowOf_len _ _).trans hcol) hsb hz hks hk4 hvs hav hv0 d1 d2 (hw.drop hf hi hx) a b hib (if_pos rfl) hc2 (by omega)
  have HSZ : Hid (w.heap.size ≤ w2.heap.size) := B2.out.size
  have X1 := hide hx1
  have XP := hide hx2
  generalize rowOf (T s).2 i = row at *
  clear h hz hf hl hx1 hx2 H2 hw hq hi hx hcnt hvs hv0 hcol hsb hib hk4
  go_enter Tryz.func27, Tryz.ntmps27
  go_wp2_with fail
  rw [← hw2]
  obtain ⟨kx, hkx⟩ : ∃ k, k = w.heap.size := ⟨_, rfl⟩
  obtain ⟨kp, hkp⟩ : ∃ k, k = w.heap.size + 1 := ⟨_, rfl⟩
  have HKX : Hid (w.heap.size = kx) := hkx.symm
  rw [← hkp] at HW XP ⊢
  rw [← hkx] at HW X1 ⊢
  rw [show w.heap.size = kx from hkx.symm] at JD
  clear hkx hkp hw2
  refine J1.out.mono ?_
  rintro e w3 ⟨rfl, hb3⟩
  have HB3 := hide hb3
  clear hb3 J1
  have HB4 := hide (below_on HB3.out (below_drew w3))
  obtain ⟨hlk, c2, p0, p1, p2, p3⟩ := HW.out w3.drew HB4.out
  have J2 := hide (JM.out w3.drew HB4.out)
  go_upto_region 3 with fail
  refine wp_region_noPanic ?_
  refine wp_region_late (J := fun i => i != 99) (S := fun W => W.cell? ⟨gw, 2, none⟩ = some (.map (some gm)) ∧ W.cell? ⟨kx, 0, none⟩ = some (.int .i64 a) ∧ W.cell? ⟨kx, 1, none⟩ = some (.int .i64 b) ∧ W.cell? ⟨kp, 0, none⟩ = some (.int .i64 x) ∧ W.cell? ⟨kp, 1, none⟩ = some (.slice av nv cv)) (by kernel_rfl) ⟨c2, p0, p1, p2, p3⟩ (fun hHeld => ?_)
  refine' wpAnyJ_takeW (i := 0) (oi := { dst := some 13, op := Op.move (Operand.tmp 0), type := 37, pos := "world.go:65", after := #[], guard := none }) (v := _) rfl (by kernel_rfl) (by kernel_rfl) (by kernel_rfl) (fun _ _ _ h => h) (Or.inl ⟨by rfl, ?hyA1⟩) ?reA1
  case hyA1 => (intro W hSw; (try dsimp only at hSw); go_simp; try with_reducible rfl)
  try simp only [Act.put, List.setIfInBounds_toArray, List.set_cons_zero, List.set_cons_succ]
  refine' wpAnyJ_takeW (i := 1) (oi := { dst := some 14, op := Op.move (Operand.tmp 0), type := 37, pos := "world.go:65", after := #[], guard := none }) (v := _) rfl (by kernel_rfl) (by kernel_rfl) (by kernel_rfl) (fun _ _ _ h => h) (Or.inl ⟨by rfl, ?hyA2⟩) ?reA2
  case hyA2 => (intro W hSw; (try dsimp only at hSw); go_simp; try with_reducible rfl)
  try simp only [Act.put, List.setIfInBounds_toArray, List.set_cons_zero, List.set_cons_succ]
  refine' wpAnyJ_takeW (i := 2) (oi := { dst := some 15, op := Op.nilCheck (Operand.tmp 14), type := 0, pos := "world.go:65", after := #[{ on := 1, ground := Ground.data }], guard := none }) (v := _) rfl (by kernel_rfl) (by kernel_rfl) (by kernel_rfl) (fun _ _ _ h => h) (Or.inl ⟨by rfl, ?hyA3⟩) ?reA3
  case hyA3 => (intro W hSw; (try dsimp only at hSw); go_simp; try with_reducible rfl)
  try simp only [Act.put, List.setIfInBounds_toArray, List.set_cons_zero, List.set_cons_succ]
  refine' wpAnyJ_takeW (i := 3) (oi := { dst := some 16, op := Op.fieldAddr 109 (Operand.tmp 15) 2, type := 0, pos := "world.go:65", after := #[{ on := 2, ground := Ground.data }], guard := none }) (v := _) rfl (by kernel_rfl) (by kernel_rfl) (by kernel_rfl) (fun _ _ _ h => h) (Or.inl ⟨by rfl, ?hyA4⟩) ?reA4
  case hyA4 => (intro W hSw; (try dsimp only at hSw); go_simp; try with_reducible rfl)
  try simp only [Act.put, List.setIfInBounds_toArray, List.set_cons_zero, List.set_cons_succ]
  refine' wpAnyJ_take (i := 4) (oi := { dst := some 17, op := Op.load 106 (Operand.tmp 16), type := 106, pos := "world.go:65", after := #[{ on := 3, ground := Ground.data }], guard := none }) (v := _) rfl (by kernel_rfl) (by kernel_rfl) (by kernel_rfl) (by kernel_rfl) (fun _ _ _ h => h) (Or.inl ⟨by rfl, ?hyA5⟩) (by assumption) ?reA5
  case hyA5 => (intro W hSw; (try dsimp only at hSw); go_simp; try with_reducible rfl)
  try simp only [Act.put, List.setIfInBounds_toArray, List.set_cons_zero, List.set_cons_succ]
  refine' wpAnyJ_take (i := 5) (oi := { dst := some 18, op := Op.load 29 (Operand.tmp 4), type := 29, pos := "world.go:65", after := #[], guard := none }) (v := _) rfl (by kernel_rfl) (by kernel_rfl) (by kernel_rfl) (by kernel_rfl) (fun _ _ _ h => h) (Or.inl ⟨by rfl, ?hyA6⟩) (by assumption) ?reA6
  case hyA6 => (intro W hSw; (try dsimp only at hSw); go_simp; try with_reducible rfl)
  try simp only [Act.put, List.setIfInBounds_toArray, List.set_cons_zero, List.set_cons_succ]
  refine' wpAnyJ_take (i := 7) (oi := { dst := some 20, op := Op.load 32 (Operand.tmp 5), type := 32, pos := "world.go:65", after := #[], guard := none }) (v := _) rfl (by kernel_rfl) (by kernel_rfl) (by kernel_rfl) (by kernel_rfl) (fun _ _ _ h => h) (Or.inl ⟨by rfl, ?hyA7⟩) (by assumption) ?reA7
  case hyA7 => (intro W hSw; (try dsimp only at hSw); go_simp; try with_reducible rfl)
  try simp only [Act.put, List.setIfInBounds_toArray, List.set_cons_zero, List.set_cons_succ]
  refine wpAnyJ_ready (rs := [6]) (by kernel_rfl) (by simp) ?_
  refine AllReadyJ.cons (o := { dst := some 19, op := Op.lookup 106 (Operand.tmp 17) (Operand.tmp 18) false, type := 3, pos := "world.go:65", after := #[{ on := 4, ground := Ground.data }, { on := 5, ground := Ground.data }], guard := none }) rfl (fun K hK => ?_) AllReadyJ.nil
  go_simp
  refine hK.out _ _ (fun _ _ => ⟨c2, p0, p1, p2, p3⟩) ?_
  clear hK K
  try simp only [Act.put, List.setIfInBounds_toArray, List.set_cons_zero, List.set_cons_succ]
  refine wpAnyJ_ready (rs := [8]) (by kernel_rfl) (by simp) ?_
  refine AllReadyJ.cons (o := { dst := some 21, op := Op.call { callee := Callee.value (Operand.func 74), args := #[Operand.tmp 13, Operand.tmp 19, Operand.tmp 20], argTypes := #[37, 3, 32] }, type := 61, pos := "world.go:65", after := #[{ on := 0, ground := Ground.data }, { on := 6, ground := Ground.data }, { on := 7, ground := Ground.data }], guard := none }) rfl (fun K hK => ?_) AllReadyJ.nil
  go_simp
  go_at_call 74
  refine J2.out.mono ?_
  rintro e w5 ⟨rfl, hb5⟩
  have HB5 := hide (below_on HB4.out hb5)
  obtain ⟨-, y2, y3, y4, y5, y6⟩ := HW.out w5 HB5.out
  go_simp
  refine hK.out _ _ (fun _ _ => ⟨y2, y3, y4, y5, y6⟩) ?_
  clear hK K hb5
  try simp only [Act.put, List.setIfInBounds_toArray, List.set_cons_zero, List.set_cons_succ]
  refine' wpAnyJ_takeW (i := 9) (oi := { dst := some 7, op := Op.assign (Operand.tmp 21), type := 61, pos := "world.go:65", after := #[{ on := 8, ground := Ground.data }, { on := 8, ground := Ground.chain }, { on := 0, ground := Ground.phase }, { on := 1, ground := Ground.phase }, { on := 2, ground := Ground.phase }, { on := 3, ground := Ground.phase }, { on := 4, ground := Ground.phase }, { on := 5, ground := Ground.phase }, { on := 6, ground := Ground.phase }, { on := 7, ground := Ground.phase }, { on := 8, ground := Ground.phase }], guard := none }) (v := _) rfl (by kernel_rfl) (by kernel_rfl) (by kernel_rfl) (fun _ _ _ h => h) (Or.inl ⟨by rfl, ?hyA8⟩) ?reA8
  case hyA8 => (intro W hSw; (try dsimp only at hSw); go_simp; try with_reducible rfl)
  try simp only [Act.put, List.setIfInBounds_toArray, List.set_cons_zero, List.set_cons_succ]
  refine wpAnyJ_done (by kernel_rfl) ?_ _
  refine NoPanic.normal ?_
  clear hlk c2 p0 p1 p2 p3 y2 y3 y4 y5 y6 J2 JM HB4 HB3
  have HB6 := hide (below_on HB5.out (below_drew w5))
  obtain ⟨-, -, p0, p1, p2, p3⟩ := HW.out w5.drew HB6.out
  have J6 := hide (JP.out w5.drew HB6.out)
  have J7 := hide (JP.out (w5.drew.alloc (.cells #[.int .i64 x, .slice av nv cv] 32)) (below_on HB6.out (below_alloc _ _)))
  have HBa := hide (below_on HB6.out (below_alloc w5.drew (.cells #[.int .i64 x, .slice av nv cv] 32)))
  go_upto_region 6 with fail
  refine wp_region_noPanic ?_
  refine wp_region_late (J := fun i => i != 99) (S := fun W => W.cell? ⟨kx, 0, none⟩ = some (.int .i64 a) ∧ W.cell? ⟨kx, 1, none⟩ = some (.int .i64 b) ∧ W.cell? ⟨kp, 0, none⟩ = some (.int .i64 x) ∧ W.cell? ⟨kp, 1, none⟩ = some (.slice av nv cv)) (by kernel_rfl) ⟨p0, p1, p2, p3⟩ (fun hHeld => ?_)
  refine' wpAnyJ_takeW (i := 0) (oi := { dst := some 25, op := Op.move (Operand.tmp 0), type := 37, pos := "world.go:68", after := #[], guard := none }) (v := _) rfl (by kernel_rfl) (by kernel_rfl) (by kernel_rfl) (fun _ _ _ h => h) (Or.inl ⟨by rfl, ?hyB1⟩) ?reB1
  case hyB1 => (intro W hSw; (try dsimp only at hSw); go_simp; try with_reducible rfl)
  try simp only [Act.put, List.setIfInBounds_toArray, List.set_cons_zero, List.set_cons_succ]
  refine' wpAnyJ_take (i := 1) (oi := { dst := some 26, op := Op.load 29 (Operand.tmp 4), type := 29, pos := "world.go:68", after := #[], guard := none }) (v := _) rfl (by kernel_rfl) (by kernel_rfl) (by kernel_rfl) (by kernel_rfl) (fun _ _ _ h => h) (Or.inl ⟨by rfl, ?hyB2⟩) (by assumption) ?reB2
  case hyB2 => (intro W hSw; (try dsimp only at hSw); go_simp; try with_reducible rfl)
  try simp only [Act.put, List.setIfInBounds_toArray, List.set_cons_zero, List.set_cons_succ]
  refine' wpAnyJ_take (i := 3) (oi := { dst := some 28, op := Op.load 32 (Operand.tmp 5), type := 32, pos := "world.go:68", after := #[], guard := none }) (v := _) rfl (by kernel_rfl) (by kernel_rfl) (by kernel_rfl) (by kernel_rfl) (fun _ _ _ h => h) (Or.inl ⟨by rfl, ?hyB3⟩) (by assumption) ?reB3
  case hyB3 => (intro W hSw; (try dsimp only at hSw); go_simp; try with_reducible rfl)
  try simp only [Act.put, List.setIfInBounds_toArray, List.set_cons_zero, List.set_cons_succ]
  refine wpAnyJ_ready (rs := [2, 4]) (by kernel_rfl) (by simp) ?_
  refine AllReadyJ.cons (o := { dst := some 27, op := Op.call { callee := Callee.value (Operand.func 78), args := #[Operand.tmp 25, Operand.tmp 26], argTypes := #[37, 29] }, type := 33, pos := "world.go:68", after := #[{ on := 0, ground := Ground.data }, { on := 1, ground := Ground.data }], guard := none }) rfl (fun K hK => ?_) ?_
  · go_simp
    go_at_call 78
    refine J6.out.mono ?_
    rintro e w7 ⟨v7, rfl, L, hL12, ho7, hv7, hb7⟩
    obtain ⟨a7, c7, rfl⟩ := own_len ho7
    have HB7 := hide (below_on HB6.out hb7)
    obtain ⟨-, -, y3, y4, y5, y6⟩ := HW.out w7 HB7.out
    have HBB : Hid (w2.heap.size ≤ w5.drew.heap.size) := HB6.out.size
    have HO7 := hide ho7
    have HV7 := hide hv7
    have HL7 := hide (below_on B2.out HB6.out).size
    clear ho7 hv7 hb7
    go_simp
    refine hK.out _ _ (fun _ _ => ⟨y3, y4, y5, y6⟩) ?_
    clear hK K y3 y4 y5 y6
    try simp only [Act.put, List.setIfInBounds_toArray, List.set_cons_zero, List.set_cons_succ]
    refine wpAnyJ_ready (rs := [4]) (by kernel_rfl) (by simp) ?_
    refine AllReadyJ.cons (o := { dst := some 29, op := Op.buildSlice 33 1 #[(0, Operand.tmp 28)], type := 33, pos := "world.go:68", after := #[{ on := 3, ground := Ground.data }], guard := none }) rfl (fun K hK => ?_) AllReadyJ.nil
    go_simp
    refine hK.out _ _ (fun _ _ => (HW.out _ (below_on HB7.out (below_alloc w7 (.cells #[.int .i64 x, .slice av nv cv] 32)))).2.2) ?_
    clear hK K
    try simp only [Act.put, List.setIfInBounds_toArray, List.set_cons_zero, List.set_cons_succ]
    refine wpAnyJ_ready (rs := [5]) (by kernel_rfl) (by simp) ?_
    refine AllReadyJ.cons (o := { dst := some 30, op := Op.call { callee := Callee.builtin Builtin.append, args := #[Operand.tmp 27, Operand.tmp 29], argTypes := #[33, 33] }, type := 33, pos := "world.go:68", after := #[{ on := 2, ground := Ground.data }, { on := 4, ground := Ground.data }, { on := 2, ground := Ground.chain }], guard := none }) rfl (fun K hK => ?_) AllReadyJ.nil
    have HO8 : Hid ((w7.alloc (.cells #[.int .i64 x, .slice av nv cv] 32)).ownsRow w.heap.size 32 2 (.slice a7 L.length c7) L.length (pz L)) := own_lower (own_later HO7.out (below_alloc _ _)) HL7.out
    have HB8 : Hid (Below w7.heap.size w7 (w7.alloc (.cells #[.int .i64 x, .slice av nv cv] 32))) := (below_alloc w7 (.cells #[.int .i64 x, .slice av nv cv] 32))
    refine step_append_lies _ rfl (.tmp 27) (.tmp 29) 33 rfl w.heap.size 32 i0 (.agg #[.int .i64 0, .slice none 0 0]) 2 32 Tryz.underlying33 hi0 hz0 hz1 hz2 rfl (by decide) (.slice a7 L.length c7) L.length (pz L) (by simp [Act.eval]) HO8.out ⟨w7.heap.size, 0, none⟩ 1 1 [.int .i64 x, .slice av nv cv] (by simp [Act.eval]) rfl (by intro j u hj; match j, hj with | 0, hj => simp at hj; subst hj; simp [Addr.add] | 1, hj => simp at hj; subst hj; simp [Addr.add]) (by intro u hu; simp at hu; rcases hu with rfl | rfl <;> rfl) (by omega) (by unfold maxLen; omega) (by omega) (by have := HB7.out.size; have := HB8.out.size; have := HSZ.out; omega) _ rfl ?_
    intro g9 c9 w9 ho9 hg9 ha9 _
    have HA9 : Hid (Ap1 w w9 ks s row (x, av, nv, cv) (.slice (some ⟨g9, 0, none⟩) (L.length + 1) c9) L) := Ap1.made HO7.out HV7.out (below_on B2.out HB7.out) HL7.out HB8.out ho9 hg9
    have X9 : Hid (w9.heap[kx]? = some (.cells #[.int .i64 a, .int .i64 b] 29 (0, 0))) := (hg9.block kx (by have := lt_of_block X1.out; have := HB7.out.size; have := HB8.out.size; omega) (fun e => by have := (HO7.out.lt kx e.symm).1; have := lt_of_block X1.out; have := HBB.out; omega)).trans ((HB8.out.block kx (by have := lt_of_block X1.out; have := HB7.out.size; omega)).trans ((HB7.out.block kx (lt_of_block X1.out)).trans X1.out))
    have hc9 : w9.cell? ⟨kx, 0, none⟩ = some (.int .i64 a) ∧ w9.cell? ⟨kx, 1, none⟩ = some (.int .i64 b) := kx_cells X9.out (Below.refl _ w9)
    have HP9 : Hid (w9.cell? ⟨kp, 0, none⟩ = some (.int .i64 x) ∧ w9.cell? ⟨kp, 1, none⟩ = some (.slice av nv cv)) := (fun (hz : w9.heap[kp]? = some (.cells #[.int .i64 x, .slice av nv cv] 32 (0, 0))) => ⟨by rw [cell_of_row w9 _ _ _ 32 (0, 0) hz]; rfl, by rw [cell_of_row w9 _ _ _ 32 (0, 0) hz]; rfl⟩) ((hg9.block kp (by have := lt_of_block XP.out; have := HB7.out.size; have := HB8.out.size; omega) (fun e => by have := (HO7.out.lt kp e.symm).1; have := lt_of_block XP.out; have := HBB.out; omega)).trans ((HB8.out.block kp (by have := lt_of_block XP.out; have := HB7.out.size; omega)).trans ((HB7.out.block kp (lt_of_block XP.out)).trans XP.out)))
    clear ho9 hg9 ha9 HO8
    refine hK.out _ _ (fun _ _ => ⟨hc9.1, hc9.2, HP9.out.1, HP9.out.2⟩) ?_
    clear hK K
    try simp only [Act.put, List.setIfInBounds_toArray, List.set_cons_zero, List.set_cons_succ]
    refine' wpAnyJ_takeW (i := 6) (oi := { dst := some 8, op := Op.assign (Operand.tmp 30), type := 33, pos := "world.go:68", after := #[{ on := 5, ground := Ground.data }, { on := 5, ground := Ground.chain }, { on := 0, ground := Ground.phase }, { on := 1, ground := Ground.phase }, { on := 2, ground := Ground.phase }, { on := 3, ground := Ground.phase }, { on := 4, ground := Ground.phase }, { on := 5, ground := Ground.phase }], guard := none }) (v := _) rfl (by kernel_rfl) (by kernel_rfl) (by kernel_rfl) (fun _ _ _ h => h) (Or.inl ⟨by rfl, ?hyB4⟩) ?reB4
    case hyB4 => (intro W hSw; (try dsimp only at hSw); go_simp; try with_reducible rfl)
    try simp only [Act.put, List.setIfInBounds_toArray, List.set_cons_zero, List.set_cons_succ]
    refine wpAnyJ_done (by kernel_rfl) ?_ _
    refine NoPanic.normal ?_
    obtain ⟨z0, z1⟩ := hc9
    have J9 := hide (JD.out w9 _ L HA9.out X9.out)
    clear HP9 HA9 X9 HB7 HO7 HV7 HL7 HB8 J6 J7 JD JP HW p0 p1 p2 p3
    go_wp2_with fail
    refine J9.out.mono ?_
    rintro e w10 ⟨rfl, J10, z0', z1'⟩
    clear J9 z0 z1
    go_wp2_with fail
    refine J10.out.mono ?_
    rintro e w11 ⟨rfl, HE⟩
    have HEE := hide HE
    clear HE J10
    go_wp2_with fail
    go_ret
    exact ⟨rfl, HEE.out⟩
  refine AllReadyJ.cons (o := { dst := some 29, op := Op.buildSlice 33 1 #[(0, Operand.tmp 28)], type := 33, pos := "world.go:68", after := #[{ on := 3, ground := Ground.data }], guard := none }) rfl (fun K hK => ?_) AllReadyJ.nil
  go_simp
  refine hK.out _ _ (fun _ _ => (HW.out _ HBa.out).2.2) ?_
  clear hK K
  try simp only [Act.put, List.setIfInBounds_toArray, List.set_cons_zero, List.set_cons_succ]
  refine wpAnyJ_ready (rs := [2]) (by kernel_rfl) (by simp) ?_
  refine AllReadyJ.cons (o := { dst := some 27, op := Op.call { callee := Callee.value (Operand.func 78), args := #[Operand.tmp 25, Operand.tmp 26], argTypes := #[37, 29] }, type := 33, pos := "world.go:68", after := #[{ on := 0, ground := Ground.data }, { on := 1, ground := Ground.data }], guard := none }) rfl (fun K hK => ?_) AllReadyJ.nil
  go_simp
  go_at_call 78
  refine J7.out.mono ?_
  rintro e w7 ⟨v7, rfl, L, hL12, ho7, hv7, hb7⟩
  obtain ⟨a7, c7, rfl⟩ := own_len ho7
  have HB7 := hide (below_on HBa.out hb7)
  obtain ⟨-, -, y3, y4, y5, y6⟩ := HW.out w7 HB7.out
  have HBB : Hid (w2.heap.size ≤ (w5.drew.alloc (.cells #[.int .i64 x, .slice av nv cv] 32)).heap.size) := HBa.out.size
  have HO7 := hide ho7
  have HV7 := hide hv7
  have HL7 := hide (below_on B2.out HBa.out).size
  have HX7 : Hid (w7.heap[w5.heap.size]? = some (.cells #[.int .i64 x, .slice av nv cv] 32 (0, 0))) := (hb7.block w5.heap.size (by simp)).trans (heap_alloc_new w5.drew _)
  clear ho7 hv7 hb7
  go_simp
  refine hK.out _ _ (fun _ _ => ⟨y3, y4, y5, y6⟩) ?_
  clear hK K y3 y4 y5 y6
  try simp only [Act.put, List.setIfInBounds_toArray, List.set_cons_zero, List.set_cons_succ]
  refine wpAnyJ_ready (rs := [5]) (by kernel_rfl) (by simp) ?_
  refine AllReadyJ.cons (o := { dst := some 30, op := Op.call { callee := Callee.builtin Builtin.append, args := #[Operand.tmp 27, Operand.tmp 29], argTypes := #[33, 33] }, type := 33, pos := "world.go:68", after := #[{ on := 2, ground := Ground.data }, { on := 4, ground := Ground.data }, { on := 2, ground := Ground.chain }], guard := none }) rfl (fun K hK => ?_) AllReadyJ.nil
  have HO8 : Hid (w7.ownsRow w.heap.size 32 2 (.slice a7 L.length c7) L.length (pz L)) := own_lower (HO7.out) HL7.out
  have HB8 : Hid (Below w7.heap.size w7 w7) := (Below.refl _ w7)
  refine step_append_lies _ rfl (.tmp 27) (.tmp 29) 33 rfl w.heap.size 32 i0 (.agg #[.int .i64 0, .slice none 0 0]) 2 32 Tryz.underlying33 hi0 hz0 hz1 hz2 rfl (by decide) (.slice a7 L.length c7) L.length (pz L) (by simp [Act.eval]) HO8.out ⟨w5.heap.size, 0, none⟩ 1 1 [.int .i64 x, .slice av nv cv] (by simp [Act.eval]) rfl (fun j u hj => by rw [add_at, cell_of_row w7 _ _ _ 32 (0, 0) HX7.out]; simpa using hj) (by intro u hu; simp at hu; rcases hu with rfl | rfl <;> rfl) (by omega) (by unfold maxLen; omega) (by omega) (by have := HB7.out.size; have := HB8.out.size; have := HSZ.out; omega) _ rfl ?_
  intro g9 c9 w9 ho9 hg9 ha9 _
  have HA9 : Hid (Ap1 w w9 ks s row (x, av, nv, cv) (.slice (some ⟨g9, 0, none⟩) (L.length + 1) c9) L) := Ap1.made HO7.out HV7.out (below_on B2.out HB7.out) HL7.out HB8.out ho9 hg9
  have X9 : Hid (w9.heap[kx]? = some (.cells #[.int .i64 a, .int .i64 b] 29 (0, 0))) := (hg9.block kx (by have := lt_of_block X1.out; have := HB7.out.size; have := HB8.out.size; omega) (fun e => by have := (HO7.out.lt kx e.symm).1; have := lt_of_block X1.out; have := HBB.out; omega)).trans ((HB8.out.block kx (by have := lt_of_block X1.out; have := HB7.out.size; omega)).trans ((HB7.out.block kx (lt_of_block X1.out)).trans X1.out))
  have hc9 : w9.cell? ⟨kx, 0, none⟩ = some (.int .i64 a) ∧ w9.cell? ⟨kx, 1, none⟩ = some (.int .i64 b) := kx_cells X9.out (Below.refl _ w9)
  have HP9 : Hid (w9.cell? ⟨kp, 0, none⟩ = some (.int .i64 x) ∧ w9.cell? ⟨kp, 1, none⟩ = some (.slice av nv cv)) := (fun (hz : w9.heap[kp]? = some (.cells #[.int .i64 x, .slice av nv cv] 32 (0, 0))) => ⟨by rw [cell_of_row w9 _ _ _ 32 (0, 0) hz]; rfl, by rw [cell_of_row w9 _ _ _ 32 (0, 0) hz]; rfl⟩) ((hg9.block kp (by have := lt_of_block XP.out; have := HB7.out.size; have := HB8.out.size; omega) (fun e => by have := (HO7.out.lt kp e.symm).1; have := lt_of_block XP.out; have := HBB.out; omega)).trans ((HB8.out.block kp (by have := lt_of_block XP.out; have := HB7.out.size; omega)).trans ((HB7.out.block kp (lt_of_block XP.out)).trans XP.out)))
  clear ho9 hg9 ha9 HO8
  refine hK.out _ _ (fun _ _ => ⟨hc9.1, hc9.2, HP9.out.1, HP9.out.2⟩) ?_
  clear hK K
  try simp only [Act.put, List.setIfInBounds_toArray, List.set_cons_zero, List.set_cons_succ]
  refine' wpAnyJ_takeW (i := 6) (oi := { dst := some 8, op := Op.assign (Operand.tmp 30), type := 33, pos := "world.go:68", after := #[{ on := 5, ground := Ground.data }, { on := 5, ground := Ground.chain }, { on := 0, ground := Ground.phase }, { on := 1, ground := Ground.phase }, { on := 2, ground := Ground.phase }, { on := 3, ground := Ground.phase }, { on := 4, ground := Ground.phase }, { on := 5, ground := Ground.phase }], guard := none }) (v := _) rfl (by kernel_rfl) (by kernel_rfl) (by kernel_rfl) (fun _ _ _ h => h) (Or.inl ⟨by rfl, ?hyB5⟩) ?reB5
  case hyB5 => (intro W hSw; (try dsimp only at hSw); go_simp; try with_reducible rfl)
  try simp only [Act.put, List.setIfInBounds_toArray, List.set_cons_zero, List.set_cons_succ]
  refine wpAnyJ_done (by kernel_rfl) ?_ _
  refine NoPanic.normal ?_
  obtain ⟨z0, z1⟩ := hc9
  have J9 := hide (JD.out w9 _ L HA9.out X9.out)
  clear HP9 HA9 X9 HB7 HO7 HV7 HL7 HB8 J6 J7 JD JP HW p0 p1 p2 p3
  go_wp2_with fail
  refine J9.out.mono ?_
  rintro e w10 ⟨rfl, J10, z0', z1'⟩
  clear J9 z0 z1
  go_wp2_with fail
  refine J10.out.mono ?_
  rintro e w11 ⟨rfl, HE⟩
  have HEE := hide HE
  clear HE J10
  go_wp2_with fail
  go_ret
  exact ⟨rfl, HEE.out⟩
end
end Go.Proofs.YtafmiolehlagkaaGreat

/-
  World: the usual kinds, of the law's own.
-/
namespace Go.Proofs.YtafmiolehlagkaaGreat
open Go.RowKit
set_option maxRecDepth 100000
def bs (l : List UInt8) : ByteArray := ⟨l.toArray⟩
def usualK : List Kind := [(bs [80, 111, 115], [bs [120], bs [121]]), (bs [86, 101, 108], [bs [120]]), (bs [68, 101, 97, 100], []), (bs [66, 111, 120], [bs [97], bs [98], bs [99], bs [100]])]
theorem four_allocs (w : World) (a b c d : Obj) : ((((w.alloc a).alloc b).alloc c).alloc d).heap[w.heap.size]? = some a ∧ ((((w.alloc a).alloc b).alloc c).alloc d).heap[w.heap.size + 1]? = some b ∧ ((((w.alloc a).alloc b).alloc c).alloc d).heap[w.heap.size + 1 + 1]? = some c ∧ ((((w.alloc a).alloc b).alloc c).alloc d).heap[w.heap.size + 1 + 1 + 1]? = some d := by
  have s1 : (w.alloc a).heap.size = w.heap.size + 1 := World.size_alloc ..
  have s2 : ((w.alloc a).alloc b).heap.size = w.heap.size + 1 + 1 := by rw [World.size_alloc, s1]
  have s3 : (((w.alloc a).alloc b).alloc c).heap.size = w.heap.size + 1 + 1 + 1 := by rw [World.size_alloc, s2]
  have e1 := heap_alloc_new w a
  have e2 := heap_alloc_new (w.alloc a) b
  have e3 := heap_alloc_new ((w.alloc a).alloc b) c
  have e4 := heap_alloc_new (((w.alloc a).alloc b).alloc c) d
  rw [s1] at e2
  rw [s2] at e3
  rw [s3] at e4
  have b2 := below_alloc (w.alloc a) b
  have b3 := below_alloc ((w.alloc a).alloc b) c
  have b4 := below_alloc (((w.alloc a).alloc b).alloc c) d
  exact ⟨((below_on (below_on b2 b3) b4).block _ (lt_of_block e1)).trans e1, ((below_on b3 b4).block _ (lt_of_block e2)).trans e2, (b4.block _ (lt_of_block e3)).trans e3, e4⟩
theorem sr_of {W : World} {g : Nat} {l : List ByteArray} {o : Array Value} (h : W.heap[g]? = some (.cells o 9 (0, 0))) (hl : l.length ≤ 100) (ho : ∀ j (hj : j < l.length), o[j]? = some (.string l[j])) : Sr W (.slice (some ⟨g, 0, none⟩) l.length l.length) l := by
  refine ⟨some ⟨g, 0, none⟩, l.length, rfl, Nat.le_refl _, by unfold maxLen; omega, fun j hj => ⟨g, 0, rfl, ?_⟩⟩
  rw [Nat.zero_add, cell_of_row W g _ _ 9 (0, 0) h]
  exact ho j hj
theorem usual_kr {W : World} {g1 g2 g3 g4 : Nat} (h1 : W.heap[g1]? = some (.cells #[.string (bs [120]), .string (bs [121])] 9 (0, 0))) (h2 : W.heap[g2]? = some (.cells #[.string (bs [120])] 9 (0, 0))) (h3 : W.heap[g3]? = some (.cells #[.string (bs [97]), .string (bs [98]), .string (bs [99]), .string (bs [100])] 9 (0, 0)))
    (h4 : W.heap[g4]? = some (.cells #[.string (bs [80, 111, 115]), .slice (some ⟨g1, 0, none⟩) 2 2, .string (bs [86, 101, 108]), .slice (some ⟨g2, 0, none⟩) 1 1, .string (bs [68, 101, 97, 100]), .slice none 0 0, .string (bs [66, 111, 120]), .slice (some ⟨g3, 0, none⟩) 4 4] 119 (0, 0))) : Kr W (.slice (some ⟨g4, 0, none⟩) 4 4) usualK := by
  have hc : ∀ j, W.cell? ⟨g4, j, none⟩ = _ := fun j => cell_of_row W g4 j _ 119 (0, 0) h4
  refine ⟨some ⟨g4, 0, none⟩, 4, rfl, Nat.le_refl _, by unfold maxLen; omega, fun i hi => ?_⟩
  have hi4 : i = 0 ∨ i = 1 ∨ i = 2 ∨ i = 3 := by have : usualK.length = 4 := rfl; omega
  rcases hi4 with rfl | rfl | rfl | rfl
  · exact ⟨g4, 0, _, rfl, hc 0, hc 1, sr_of (l := [bs [120], bs [121]]) h1 (by decide) (fun j hj => by
      have : j = 0 ∨ j = 1 := by simp at hj; omega
      rcases this with rfl | rfl <;> rfl)⟩
  · exact ⟨g4, 0, _, rfl, hc 2, hc 3, sr_of (l := [bs [120]]) h2 (by decide) (fun j hj => by
      have : j = 0 := by simp at hj; omega
      subst this; rfl)⟩
  · exact ⟨g4, 0, _, rfl, hc 4, hc 5, ⟨none, 0, rfl, Nat.le_refl _, Nat.zero_le _, fun j hj => absurd hj (by simp [usualK])⟩⟩
  · exact ⟨g4, 0, _, rfl, hc 6, hc 7, sr_of (l := [bs [97], bs [98], bs [99], bs [100]]) h3 (by decide) (fun j hj => by
      have : j = 0 ∨ j = 1 ∨ j = 2 ∨ j = 3 := by simp at hj; omega
      rcases this with rfl | rfl | rfl | rfl <;> rfl)⟩
set_option maxHeartbeats 2000000 in
theorem usual_any (w : World) : Calls Tryz.prog 19 #[] w fun e w' => ∃ v, e = .returned v ∧ (∀ W, Below w'.heap.size w' W → Kr W v usualK) ∧ Below w.heap.size w w' := by
  go_enter Tryz.func19, Tryz.ntmps19
  go_wp2_with fail
  go_ret
  refine ⟨_, rfl, fun W hW => ?_, ?_⟩
  · have k1 : ∀ (a b c d : Obj) (X : World), X = (((w.alloc a).alloc b).alloc c).alloc d → X.heap[w.heap.size]? = some a ∧ X.heap[w.heap.size + 1]? = some b ∧ X.heap[w.heap.size + 1 + 1]? = some c ∧ X.heap[w.heap.size + 1 + 1 + 1]? = some d := fun a b c d X hX => by
      subst hX
      exact four_allocs w a b c d
    obtain ⟨e1, e2, e3, e4⟩ := k1 _ _ _ _ _ rfl
    exact usual_kr ((hW.block _ (lt_of_block e1)).trans e1) ((hW.block _ (lt_of_block e2)).trans e2) ((hW.block _ (lt_of_block e3)).trans e3) ((hW.block _ (lt_of_block e4)).trans e4)
  · exact below_on (below_on (below_on (below_alloc w _) (below_alloc _ _)) (below_alloc _ _)) (below_alloc _ _)
end Go.Proofs.YtafmiolehlagkaaGreat

/-
  World: whether a text is among others.
-/
namespace Go.Proofs.YtafmiolehlagkaaGreat
open Go.RowKit
set_option maxRecDepth 100000
theorem text_inj {a b : ByteArray} (h : a.data.toList = b.data.toList) : a = b := by
  cases a
  cases b
  simp only [ByteArray.mk.injEq]
  exact Array.toList_inj.1 h
set_option maxHeartbeats 2000000 in
theorem index_any {w : World} {v : Value} {l : List ByteArray} (h : Sr w v l) (x : ByteArray) : Calls Tryz.prog 212 #[v, .string x] w fun e w' => (∃ i : Int, e = .returned (.int .i64 i) ∧ (0 ≤ i ↔ x ∈ l)) ∧ w' = w := by
  obtain ⟨ao, c, rfl, h1, h2, h3⟩ := h
  have hbig : c ≤ 9223372036854775807 := by unfold maxLen at h2; omega
  have H3 := hide h3
  clear h3 h2
  go_enter Tryz.func212, Tryz.ntmps212
  go_wp2_with fail
  go_loopw [8] (fun v8 W => ∃ i : Nat, i ≤ l.length ∧ v8 = .int .i64 (i : Int) ∧ Hid (x ∉ l.take i) ∧ Hid (W = w)) (fun v8 _ => l.length - (intOf v8).toNat)
  case atStart => exact ⟨0, Nat.zero_le _, rfl, by simp [Hid], rfl⟩
  case round =>
    obtain ⟨i, hil, rfl, HN, HW⟩ := hrel
    by_cases hlt : i < l.length
    · have t1 : (i : Int) < (l.length : Int) := by omega
      obtain ⟨g, o, rfl, e1⟩ := H3.out i hlt
      rw [← HW.out] at e1
      have hm1 : Hid (x ∉ l.take (i + 1) ↔ ¬ x = l[i]) := by
        unfold Hid
        rw [List.take_succ_eq_append_getElem hlt, List.mem_append, List.mem_singleton]
        have := HN.out
        constructor
        · intro h e; exact h (.inr e)
        · intro h e
          rcases e with e | e
          · exact this e
          · exact h e
      have hm2 : Hid (x = l[i] → x ∈ l) := fun e => e ▸ List.getElem_mem hlt
      generalize l[i] = y at *
      by_cases hxy : x = y
      · have HIN := hide (hm2.out hxy)
        subst hxy
        clear hm2 hm1
        go_wp2_with fail
        go_ret
        exact ⟨⟨_, rfl, ⟨fun _ => HIN.out, fun _ => by omega⟩⟩, HW.out⟩
      · have HNN := hide (hm1.out.2 hxy)
        have hb : (x.toList == y.toList) = false := by
          rw [beq_eq_false_iff_ne]
          intro e
          rw [ByteArray.toList_eq, ByteArray.toList_eq] at e
          exact hxy (text_inj e)
        clear hm1 hm2
        go_wp2_with fail
        refine ⟨⟨i + 1, by omega, by go_num, HNN, HW⟩, ?_⟩
        simp [intOf]
        omega
    · obtain rfl : i = l.length := by omega
      have t1 : ¬ (l.length : Int) < (l.length : Int) := by omega
      have hn := HN.out
      rw [List.take_length] at hn
      have HN2 := hide hn
      clear hn HN
      go_wp2_with fail
      go_ret
      exact ⟨⟨_, rfl, ⟨fun e => by omega, fun e => absurd e HN2.out⟩⟩, HW.out⟩
set_option maxHeartbeats 1000000 in
theorem contains_any {w : World} {v : Value} {l : List ByteArray} (h : Sr w v l) (x : ByteArray) [Decidable (x ∈ l)] : Calls Tryz.prog 181 #[v, .string x] w fun e w' => e = .returned (.bool (decide (x ∈ l))) ∧ w' = w := by
  have J := hide (index_any h x)
  obtain ⟨ao, c, rfl, -⟩ := h
  by_cases h0 : x ∈ l
  · rw [decide_eq_true h0]
    have J2 : Hid (Calls Tryz.prog 212 #[.slice ao l.length c, .string x] w fun e w' => (∃ i : Int, e = .returned (.int .i64 i) ∧ i ≥ 0) ∧ w' = w) := J.out.mono (fun _e _w' ⟨⟨i, e1, e2⟩, e3⟩ => ⟨⟨i, e1, e2.2 h0⟩, e3⟩)
    clear J h0
    go_enter Tryz.func181, Tryz.ntmps181
    go_wp2_with fail
    refine J2.out.mono ?_
    rintro e w' ⟨⟨i, rfl, t1⟩, rfl⟩
    go_wp2_with fail
    go_ret
    exact ⟨rfl, rfl⟩
  · rw [decide_eq_false h0]
    have J2 : Hid (Calls Tryz.prog 212 #[.slice ao l.length c, .string x] w fun e w' => (∃ i : Int, e = .returned (.int .i64 i) ∧ ¬ 0 ≤ i) ∧ w' = w) := J.out.mono (fun _e _w' ⟨⟨i, e1, e2⟩, e3⟩ => ⟨⟨i, e1, fun e => h0 (e2.1 e)⟩, e3⟩)
    clear J h0
    go_enter Tryz.func181, Tryz.ntmps181
    go_wp2_with fail
    refine J2.out.mono ?_
    rintro e w' ⟨⟨i, rfl, t1⟩, rfl⟩
    have t2 : decide (0 ≤ i) = false := decide_eq_false (by omega)
    go_wp2_with fail
    go_ret
    refine ⟨?_, rfl⟩
    simp
end Go.Proofs.YtafmiolehlagkaaGreat

/-
  World: letters, digits.
-/
namespace Go.Proofs.YtafmiolehlagkaaGreat
open Go.RowKit
set_option maxRecDepth 100000
def isL (c : Int) : Bool := decide (65 ≤ c ∧ c ≤ 90 ∨ 97 ≤ c ∧ c ≤ 122)
def isD (c : Int) : Bool := decide (48 ≤ c ∧ c ≤ 57)
set_option maxHeartbeats 2000000 in
theorem letter_any (c : Int) (w : World) : Calls Tryz.prog 210 #[.int .u8 c] w fun e w' => e = .returned (.bool (isL c)) ∧ w' = w := by
  by_cases h1 : c ≥ 65
  · by_cases h2 : c ≤ 90
    · have e : isL c = true := decide_eq_true (.inl ⟨h1, h2⟩)
      rw [e]
      go_enter Tryz.func210, Tryz.ntmps210
      go_wp2_with fail
      go_ret
      exact ⟨rfl, rfl⟩
    · by_cases h3 : c ≥ 97
      · by_cases h4 : c ≤ 122
        · have e : isL c = true := decide_eq_true (.inr ⟨h3, h4⟩)
          rw [e]
          go_enter Tryz.func210, Tryz.ntmps210
          go_wp2_with fail
          go_ret
          exact ⟨rfl, rfl⟩
        · have e : isL c = false := decide_eq_false (by omega)
          rw [e]
          go_enter Tryz.func210, Tryz.ntmps210
          go_wp2_with fail
          go_ret
          exact ⟨rfl, rfl⟩
      · have e : isL c = false := decide_eq_false (by omega)
        rw [e]
        go_enter Tryz.func210, Tryz.ntmps210
        go_wp2_with fail
        go_ret
        exact ⟨rfl, rfl⟩
  · have e : isL c = false := decide_eq_false (by omega)
    have h3 : ¬ c ≥ 97 := by omega
    rw [e]
    go_enter Tryz.func210, Tryz.ntmps210
    go_wp2_with fail
    go_ret
    exact ⟨rfl, rfl⟩
set_option maxHeartbeats 2000000 in
theorem digit_any (c : Int) (w : World) : Calls Tryz.prog 211 #[.int .u8 c] w fun e w' => e = .returned (.bool (isD c)) ∧ w' = w := by
  by_cases h1 : c ≥ 48
  · by_cases h2 : c ≤ 57
    · have e : isD c = true := decide_eq_true ⟨h1, h2⟩
      rw [e]
      go_enter Tryz.func211, Tryz.ntmps211
      go_wp2_with fail
      go_ret
      exact ⟨rfl, rfl⟩
    · have e : isD c = false := decide_eq_false (by omega)
      rw [e]
      go_enter Tryz.func211, Tryz.ntmps211
      go_wp2_with fail
      go_ret
      exact ⟨rfl, rfl⟩
  · have e : isD c = false := decide_eq_false (by omega)
    rw [e]
    go_enter Tryz.func211, Tryz.ntmps211
    go_wp2_with fail
    go_ret
    exact ⟨rfl, rfl⟩
end Go.Proofs.YtafmiolehlagkaaGreat
