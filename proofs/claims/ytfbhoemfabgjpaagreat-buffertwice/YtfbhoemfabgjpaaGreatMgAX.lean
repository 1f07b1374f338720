import Derived.Test.YtfbhoemfabgjpaaGreatMgAV
import Derived.Test.YtfbhoemfabgjpaaGreatMgAW
import Derived.Test.YtfbhoemfabgjpaaGreatMgAE
import Derived.Test.YtfbhoemfabgjpaaGreatMgAR
/-
  World: Snapshot.
-/
namespace Go.Proofs.YtfbhoemfabgjpaaGreat
open Go.RowKit
set_option maxRecDepth 100000
theorem partsL_sub : ∀ (ks : List Kind) (s k0 : Nat) (vals : List Int) (r : Nat × List Int), r ∈ partsL ks s k0 vals → ∀ z ∈ r.2, z ∈ vals
  | [], _, _, _, _, h => by cases h
  | kd :: t, s, k0, vals, r, h => by
    unfold partsL at h
    by_cases c : s.testBit k0 = true
    · rw [if_pos c] at h
      rcases List.mem_cons.1 h with rfl | h
      · exact fun z hz => List.mem_of_mem_take hz
      · exact fun z hz => List.mem_of_mem_drop (partsL_sub t s (k0 + 1) _ r h z hz)
    · rw [if_neg c] at h
      exact partsL_sub t s (k0 + 1) _ r h
theorem partsL_le : ∀ (ks : List Kind) (s k0 : Nat) (vals : List Int), (partsL ks s k0 vals).length ≤ ks.length
  | [], _, _, _ => Nat.le_refl _
  | kd :: t, s, k0, vals => by
    unfold partsL
    have h1 := partsL_le t s (k0 + 1) (vals.drop kd.2.length)
    have h2 := partsL_le t s (k0 + 1) vals
    split <;> simp only [List.length_cons] <;> omega
/-- What a world holds of one, as it is written. -/
def contB (ks : List Kind) (f : Int × Int → Option Nat) (T : Nat → Ts) (e : Int × Int) : List UInt8 :=
  match f e with
  | none => []
  | some s => wrB s (partsL ks s 1 (rowOf (T s).2 ((T s).1.idxOf e)))
def snapB (ks : List Kind) (gs fr : List Nat) (f : Int × Int → Option Nat) (T : Nat → Ts) (E : List (Int × Int)) : List UInt8 := Pak.Rw.rowB (zi gs) ++ Pak.Rw.rowB (zi fr) ++ E.flatMap (contB ks f T)
/-- All that live, by their numbers. -/
def Livers (f : Int × Int → Option Nat) (E : List (Int × Int)) : Prop := E.Pairwise (fun x y => x.1 ≤ y.1) ∧ E.Nodup ∧ (∀ e, InB e → ((f e).isSome = true ↔ e ∈ E)) ∧ ∀ e ∈ E, InB e
theorem rowB_len {l : List Int} (h : Pak.Rw.AllFit l) (hl : l.length ≤ 1048576) : (Pak.Rw.rowB l).length ≤ 20 * l.length + 30 := by
  unfold Pak.Rw.rowB
  split
  · simp
  · have h1 := Pak.Rw.formB_length h hl (Pak.Rw.best l)
    have h2 := Lib.uvarint_length64 (show l.length < 18446744073709551616 by omega)
    rw [List.length_append, List.length_cons]
    omega
theorem zi_fit {gs : List Nat} (h : ∀ x ∈ gs, x ≤ 2000000) : Pak.Rw.AllFit (zi gs) := fun z hz => by
  simp only [zi, List.mem_map] at hz
  obtain ⟨x, hx, rfl⟩ := hz
  have := h x hx
  unfold Pak.Rw.Fits
  omega
theorem cont_of {ks : List Kind} {f : Int × Int → Option Nat} {q : Nat → Option Nat} {T : Nat → Ts} (hw : Wi ks f q T) {e : Int × Int} {s j : Nat} (hf : f e = some s) (hj : ∃ hj : j < (T s).1.length, (T s).1[j] = e) : contB ks f T e = wrB s (partsL ks s 1 (rowOf (T s).2 j)) := by
  obtain ⟨hj, hx⟩ := hj
  obtain ⟨_, ⟨g, hq⟩, _⟩ := hw.1 e s hf
  have hn := (hw.2 s g hq).2.2.1
  have : (T s).1.idxOf e = j := by
    have h1 : (T s).1.idxOf e < (T s).1.length := List.idxOf_lt_length_iff.2 (hx ▸ List.getElem_mem hj)
    exact nodup_at hn h1 hj ((List.getElem_idxOf h1).trans hx.symm)
  unfold contB
  rw [hf]
  dsimp only
  rw [this]
/-- Rows in memory of their own. -/
def Rk (B : Nat) (W : World) (ks : List Kind) (f : Int × Int → Option Nat) (T : Nat → Ts) (v : Value) (R : List Rt) : Prop := W.ownsRow B 87 3 v R.length (rz R) ∧ ∀ r ∈ R, Rw1 B W ks f T (fun _ => False) r
section
variable {B : Nat} {W W' : World} {ks : List Kind} {f : Int × Int → Option Nat} {T : Nat → Ts} {v : Value} {R : List Rt}
theorem Rk.later (h : Rk B W ks f T v R) (hb : Below W.heap.size W W') : Rk B W' ks f T v R := ⟨own_later h.1 hb, fun r hr => (h.2 r hr).grown (grown_later hb) (fun k e => by cases e)⟩
theorem Rk.grown {b : Value} {B' n : Nat} {xs : List Value} (h : Rk B W ks f T v R) (hb : W.ownsRow B' 5 1 b n xs) (hg : W.grownBy W' b.ownBlock) : Rk B W' ks f T v R := by
  refine ⟨own_kept h.1 hg (fun k e e2 => own_kinds h.1 hb (by decide) e e2), fun r hr => ?_⟩
  obtain ⟨s, j, L, h1, h2, h3, h4, h5, h6⟩ := h.2 r hr
  refine ⟨s, j, L, h1, h2, own_kept h3 hg (fun k e e2 => own_kinds h3 hb (by decide) e e2), h4.grown hg (fun p hp k e e2 => ?_), h5, h6⟩
  obtain ⟨m, hm, rfl⟩ := List.getElem_of_mem hp
  exact own_kinds (h4.2 m hm (by rw [← h4.1]; exact hm)).2 hb (by decide) e e2
end
section
variable {w w' : World} {own : Nat → Nat} {gw gp gm gt M M' : Nat} {vk : Value} {ks : List Kind} {gs fr gs' fr' : List Nat} {f f' : Int × Int → Option Nat} {q q' : Nat → Option Nat} {T T' : Nat → Ts}
theorem fm_rows (R : List Rt) (i : Nat) (hi : i < R.length) (g : Int × Int → List UInt8) : ((R.take (i + 1)).map entR).flatMap g = ((R.take i).map entR).flatMap g ++ g (entR R[i]) := by
  rw [List.take_succ_eq_append_getElem hi, List.map_append, List.flatMap_append]
  simp
theorem wrote (h : Wx 0 w own gw vk gp gm gt M ks gs fr f q T) (hw : Wi ks f q T) (hks : ks.length ≤ 12) (hfit : ∀ s g, q s = some g → ∀ c ∈ (T s).2, Pak.Rw.AllFit c) {B : Nat} {r : Rt} (hr : Rw1 B w ks f T (fun _ => False) r) (hin : InB (entR r)) :
    (Calls Tryz.prog 28 #[.pointer (some ⟨gw, 0, none⟩), .agg #[.int .i64 r.1, .int .i64 r.2.1, rtV r]] w fun e w' => ∃ v, e = .returned v ∧ w'.ownsRow w.heap.size 5 1 v (contB ks f T (entR r)).length (Lib.byteCells (contB ks f T (entR r))) ∧ Below w.heap.size w w') ∧ 0 < (contB ks f T (entR r)).length ∧ (contB ks f T (entR r)).length ≤ 13000 := by
  obtain ⟨s, j, L, h1, h2, h3, h4, -, -⟩ := hr
  rw [cont_of hw h1 h2]
  obtain ⟨hs, ⟨g, hq⟩, -⟩ := hw.1 _ s h1
  obtain ⟨-, k2, -, -, -, -⟩ := hw.2 s g hq
  have hv : Pak.Rw.AllFit (rowOf (T s).2 j) := fun z hz => by
    simp only [rowOf, List.mem_map] at hz
    obtain ⟨c, hc, rfl⟩ := hz
    exact Pak.Rw.getD_fits (hfit s g hq c hc) j
  have h48 : (rowOf (T s).2 j).length ≤ 48 := by
    rw [rowOf_len]
    obtain ⟨n, -, ht⟩ := h.tb hq
    obtain ⟨lab, vr, gm', vc, cs, f', -, -, -, -, -, -, h48⟩ := ht
    exact h48
  have hR : ∀ r ∈ partsL ks s 1 (rowOf (T s).2 j), Pak.Rw.AllFit r.2 ∧ r.2.length ≤ 100 := fun r hr => by
    refine ⟨fun z hz => hv z (partsL_sub ks s 1 _ r hr z hz), ?_⟩
    have hfl := partsL_flat ks s 1 (rowOf (T s).2 j) (by rw [rowOf_len, k2])
    have : r.2.length ≤ ((partsL ks s 1 (rowOf (T s).2 j)).flatMap (·.2)).length := by
      obtain ⟨i, hi, rfl⟩ := List.getElem_of_mem hr
      have := (List.sublist_flatten_of_mem (L := (partsL ks s 1 (rowOf (T s).2 j)).map (·.2)) (List.mem_map.2 ⟨_, List.getElem_mem hi, rfl⟩)).length_le
      rwa [List.flatMap_def]
    rw [hfl] at this
    omega
  have hn := partsL_le ks s 1 (rowOf (T s).2 j)
  refine ⟨written_any h r.1 r.2.1 hin s h1 hs B _ _ _ L _ h3 h4 hR (by omega), ?_, ?_⟩
  · unfold wrB
    rw [List.length_append]
    have : 0 < (Lib.uvarint s).length := by
      rw [Lib.uvarint]
      split <;> simp
    omega
  · have := wr_len hs hR
    omega
end
end Go.Proofs.YtfbhoemfabgjpaaGreat

/-
  Ids: State.
-/
namespace Go.Proofs.YtfbhoemfabgjpaaGreat
open Go.RowKit
set_option maxRecDepth 100000
set_option maxHeartbeats 2000000 in
set_option maxRecDepth 100000 in
theorem state_pm (g n : Nat) (vg vl vf : Value) (gs fr : List Nat) (lv : List (Nat × Nat)) (w : World) (h : Pm w g n vg vl vf gs fr lv) (hg : gs.length ≤ 1000000) (hf : fr.length ≤ 1000000) :
    Calls Tryz.prog 24 #[.pointer (some ⟨g, 0, none⟩)] w fun e w' => ∃ v1 v2, e = .returned (.tuple #[v1, v2]) ∧ w'.ownsRow w.heap.size 3 1 v1 gs.length (ic gs) ∧ w'.ownsRow w.heap.size 3 1 v2 fr.length (ic fr) ∧ Ap v1 v2 ∧ Below w.heap.size w w' := by
  obtain ⟨c0, c1, c2, c3⟩ := h.cell
  have J1 : Hid (∀ W, Below w.heap.size w W → Calls Tryz.prog 44 #[vg] W fun e w' => ∃ v', e = .returned v' ∧ Hid (w'.ownsRow w.heap.size 3 1 v' gs.length (ic gs) ∧ Below w.heap.size w w') ∧ w'.cell? ⟨g, 1, none⟩ = some vg ∧ w'.cell? ⟨g, 3, none⟩ = some vf) := fun W hW =>
    (i_clone_any vg gs.length gs W (own_later h.2.1 hW) hg).mono (by
      rintro e w' ⟨v', rfl, ho, hb⟩
      have hx := below_on hW hb
      have hp := (h.later hx).cell
      exact ⟨v', rfl, ⟨own_lower ho hW.size, hx⟩, hp.2.1, hp.2.2.2⟩)
  have J2 : Hid (∀ W v1, W.ownsRow w.heap.size 3 1 v1 gs.length (ic gs) → Below w.heap.size w W → Calls Tryz.prog 44 #[vf] W fun e w' => ∃ v', e = .returned v' ∧ Hid (w'.ownsRow w.heap.size 3 1 v1 gs.length (ic gs) ∧ w'.ownsRow w.heap.size 3 1 v' fr.length (ic fr) ∧ Ap v1 v' ∧ Below w.heap.size w w') ∧ w'.cell? ⟨g, 1, none⟩ = some vg ∧ w'.cell? ⟨g, 3, none⟩ = some vf) := fun W v1 h1 hW =>
    (i_clone_any vf fr.length fr W (own_later h.2.2.2.1 hW) hf).mono (by
      rintro e w' ⟨v', rfl, ho, hb⟩
      have hx := below_on hW hb
      have hp := (h.later hx).cell
      refine ⟨v', rfl, ⟨own_later h1 hb, own_lower ho hW.size, fun k e1 e2 => ?_, hx⟩, hp.2.1, hp.2.2.2⟩
      have := (h1.lt k e1).2
      have := (ho.lt k e2).1
      omega)
  clear h
  go_enter Tryz.func24, Tryz.ntmps24
  go_wp2_with fail
  go_region_held3 (fun W => W.cell? ⟨g, 1, none⟩ = some vg ∧ W.cell? ⟨g, 3, none⟩ = some vf) (go_keep) (first | (go_at_call 44; refine (J1.out _ (below_drew w)).mono ?_; rintro e w1 ⟨v1, rfl, HH, d1, d3⟩) | (go_at_call 44; refine (J2.out _ _ HH.out.1 HH.out.2).mono ?_; rintro e w2 ⟨v2, rfl, HH2, d1', d3'⟩))
  all_goals
    go_wp2_with fail
    go_ret2
    exact ⟨_, _, rfl, HH2.out⟩
theorem state_any {w : World} {S : Nat → Prop} {g n : Nat} {gs fr : List Nat} (h : Pl w S g n gs fr) :
    Calls Tryz.prog 24 #[.pointer (some ⟨g, 0, none⟩)] w fun e w' => ∃ v1 v2, e = .returned (.tuple #[v1, v2]) ∧ w'.ownsRow w.heap.size 3 1 v1 gs.length (ic gs) ∧ w'.ownsRow w.heap.size 3 1 v2 fr.length (ic fr) ∧ Ap v1 v2 ∧ Below w.heap.size w w' := by
  obtain ⟨⟨vg, vl, vf, hp, _⟩, ho⟩ := h
  exact state_pm g n vg vl vf gs fr _ w hp (by have := ho.2.2.1; have := ho.2.1; omega) (by have := ho.free_len; have := ho.2.2.1; have := ho.2.1; omega)
end Go.Proofs.YtfbhoemfabgjpaaGreat

/-
  World: Snapshot's walk.
-/
namespace Go.Proofs.YtfbhoemfabgjpaaGreat
open Go.RowKit
set_option maxRecDepth 100000
section
variable {w w' : World} {own : Nat → Nat} {gw gp gm gt M M' : Nat} {vk : Value} {ks : List Kind} {gs fr gs' fr' : List Nat} {f f' : Int × Int → Option Nat} {q q' : Nat → Option Nat} {T T' : Nat → Ts}
set_option maxHeartbeats 8000000 in
theorem snapshot_any (h : Wx 0 w own gw vk gp gm gt M ks gs fr f q T) (hw : Wi ks f q T) (hks : ks.length ≤ 12) (hfit : ∀ s g, q s = some g → ∀ c ∈ (T s).2, Pak.Rw.AllFit c) (hcnt : ∀ E : List (Int × Int), E.Nodup → (∀ e ∈ E, (f e).isSome = true) → E.length ≤ 200) :
    Calls Tryz.prog 12 #[.pointer (some ⟨gw, 0, none⟩)] w fun e w' => ∃ v, e = .returned v ∧ (∃ E, Livers f E ∧ w'.ownsRow w.heap.size 5 1 v (snapB ks gs fr f T E).length (Lib.byteCells (snapB ks gs fr f T E))) ∧ Below w.heap.size w w' := by
  obtain ⟨i0, hi0, hz0, hz1, hz2⟩ := info_parts Pak.info5
  obtain ⟨-, c1, -, -⟩ := h.cells
  have hpl := h.pl
  have hok := hpl.2
  have hgl : gs.length ≤ 200 := hok.2.2.1
  have hfl : fr.length ≤ 200 := Nat.le_trans hok.free_len hgl
  have hgf : Pak.Rw.AllFit (zi gs) := zi_fit (fun x hx => by have := (hok.2.2.2.1 x hx).2; omega)
  have hff : Pak.Rw.AllFit (zi fr) := zi_fit (fun x hx => by have := (hok.2.2.2.2.2 x hx).1; omega)
  have J1 := hide (state_any hpl)
  have JR : Hid (∀ W, Below w.heap.size w W → Calls Tryz.prog 27 #[.pointer (some ⟨gw, 0, none⟩)] W fun e w' => ∃ v, e = .returned v ∧ (∃ R, Rs W.heap.size w' ks f T v R) ∧ Below W.heap.size W w') := fun W hW => rows_any (h.later hW) hw hks hcnt
  have JW : Hid (∀ (W : World) (B : Nat) (r : Rt), Below w.heap.size w W → Rw1 B W ks f T (fun _ => False) r → InB (entR r) → (Calls Tryz.prog 28 #[.pointer (some ⟨gw, 0, none⟩), .agg #[.int .i64 r.1, .int .i64 r.2.1, rtV r]] W fun e w' => ∃ v, e = .returned v ∧ w'.ownsRow W.heap.size 5 1 v (contB ks f T (entR r)).length (Lib.byteCells (contB ks f T (entR r))) ∧ Below W.heap.size W w') ∧ 0 < (contB ks f T (entR r)).length ∧ (contB ks f T (entR r)).length ≤ 13000) := fun W B r hW hr hin => wrote (h.later hW) hw hks hfit hr hin
  have HG := hide hgf
  have HFF := hide hff
  have HC := hide hcnt
  clear hpl hok hw hfit h hgf hff hcnt
  go_enter Tryz.func12, Tryz.ntmps12
  go_wp2_with fail
  refine J1.out.mono ?_
  rintro e w1 ⟨v1, v2, rfl, o1, o2, -, hb1⟩
  have J2 := hide (wide_any o1 (by omega))
  have O2 := hide o2
  obtain ⟨a1, n1, k1, rfl⟩ := own_slice o1
  obtain ⟨a2, n2, k2, rfl⟩ := own_slice o2
  have HB1 := hide hb1
  clear o1 o2 hb1 J1 c1
  go_wp2_with fail
  refine J2.out.mono ?_
  rintro e w2 ⟨v3, rfl, o3, hb2⟩
  have J3 := hide (Pak.putRow_any (.slice none 0 0) v3 [] (zi gs) w2 (Pak.Bs.nil _) (own_ns (by rw [zi_len]; exact o3)) HG.out (by rw [zi_len]; omega) (by simp))
  have HB2 := hide (below_on HB1.out hb2)
  have O2' := hide (own_later O2.out hb2)
  obtain ⟨a3, n3, k3, rfl⟩ := own_slice o3
  clear o3 hb2 J2 O2
  go_wp2_with fail
  refine J3.out.mono ?_
  rintro e w3 ⟨v4, rfl, o4, hb3⟩
  have O4 : Hid (w3.ownsRow w.heap.size 5 1 v4 (Pak.Rw.rowB (zi gs)).length (Lib.byteCells (Pak.Rw.rowB (zi gs)))) := by
    have := own_lower o4 HB2.out.size
    unfold Hid
    simpa using this
  have J4 := hide (wide_any (own_later O2'.out hb3) (by omega))
  have HB3 := hide (below_on HB2.out hb3)
  obtain ⟨a4, n4, k4, rfl⟩ := own_slice o4
  clear o4 hb3 J3 O2'
  go_wp2_with fail
  refine J4.out.mono ?_
  rintro e w4 ⟨v5, rfl, o5, hb4⟩
  have hgB := rowB_len HG.out (by rw [zi_len]; omega)
  rw [zi_len] at hgB
  have J5 := hide (Pak.putRow_any (.slice a4 n4 k4) v5 (Pak.Rw.rowB (zi gs)) (zi fr) w4 (bs_own (own_later O4.out hb4) rfl) (own_ns (by rw [zi_len]; exact o5)) HFF.out (by rw [zi_len]; omega) (by omega))
  have HB4 := hide (below_on HB3.out hb4)
  obtain ⟨a5, n5, k5, rfl⟩ := own_slice o5
  clear o5 hb4 J4 O4
  go_wp2_with fail
  refine J5.out.mono ?_
  rintro e w5 ⟨v6, rfl, o6, hb5⟩
  have O6 : Hid (w5.ownsRow w.heap.size 5 1 v6 (Pak.Rw.rowB (zi gs) ++ Pak.Rw.rowB (zi fr)).length (Lib.byteCells (Pak.Rw.rowB (zi gs) ++ Pak.Rw.rowB (zi fr)))) := by
    rw [List.length_append]
    exact own_lower o6 HB4.out.size
  have HB5 := hide (below_on HB4.out hb5)
  obtain ⟨a6, n6, k6, rfl⟩ := own_slice o6
  have hfB := rowB_len HFF.out (by rw [zi_len]; omega)
  rw [zi_len] at hfB
  have hbl : (Pak.Rw.rowB (zi gs) ++ Pak.Rw.rowB (zi fr)).length ≤ 10000 := by rw [List.length_append]; omega
  clear o6 hb5 J5 hgB hfB
  go_wp2_with fail
  refine (JR.out w5 HB5.out).mono ?_
  rintro e w6 ⟨v7, rfl, ⟨R, hRs⟩, hb6⟩
  obtain ⟨r1, r2, r3, r4, r5, r6⟩ := hRs
  have hRl : R.length ≤ 200 := by
    have := HC.out _ r3 (fun e he => by
      obtain ⟨r, hr, rfl⟩ := List.mem_map.1 he
      exact (r4 _ (r6 r hr)).2 (List.mem_map.2 ⟨r, hr, rfl⟩))
    rwa [List.length_map] at this
  have HE : Hid (Livers f (R.map entR)) := ⟨List.pairwise_map.2 (r2.imp (fun h => h)), r3, r4, fun e he => by
    obtain ⟨r, hr, rfl⟩ := List.mem_map.1 he
    exact r6 r hr⟩
  have HRK : Hid (Rk w.heap.size w6 ks f T v7 R) := ⟨own_lower r1 HB5.out.size, fun r hr => ((r5 r hr).off (fun _ _ _ e => e.elim)).low HB5.out.size⟩
  have HRI : Hid (∀ r ∈ R, InB (entR r)) := r6
  have O7 : Hid (w6.ownsRow w.heap.size 5 1 (.slice a6 n6 k6) (snapB ks gs fr f T ((R.take 0).map entR)).length (Lib.byteCells (snapB ks gs fr f T ((R.take 0).map entR)))) := by
    have := own_later O6.out hb6
    unfold Hid
    simpa [snapB] using this
  have HB6 := hide (below_on HB5.out hb6)
  have hsl : ∀ i, i ≤ R.length → i ≤ 200 := fun i hi => by omega
  obtain ⟨a7, k7, rfl⟩ := own_len r1
  have hcap := own_cap r1
  clear r1 r2 r3 r4 r5 r6 hb6 O6 JR
  go_wp2_with fail
  go_loopw [5, 26] (fun v5 v26 W => ∃ i : Nat, i ≤ R.length ∧ v26 = .int .i64 (i : Int) ∧ (snapB ks gs fr f T ((R.take i).map entR)).length ≤ 10000 + 13000 * i ∧ Hid (W.ownsRow w.heap.size 5 1 v5 (snapB ks gs fr f T ((R.take i).map entR)).length (Lib.byteCells (snapB ks gs fr f T ((R.take i).map entR)))) ∧ Hid (Rk w.heap.size W ks f T (.slice a7 R.length k7) R) ∧ Hid (Below w.heap.size w W)) (fun _ v26 _ => R.length - (intOf v26).toNat)
  case atStart => exact ⟨0, Nat.zero_le _, rfl, by simp only [snapB, List.take_zero, List.map_nil, List.flatMap_nil, List.append_nil]; omega, O7, HRK, HB6⟩
  case round =>
    obtain ⟨i, hil, rfl, hlen, HO, HK, HB⟩ := hrel
    by_cases hlt : i < R.length
    · have t1 : (i : Int) < (R.length : Int) := by omega
      obtain ⟨g, c', e', -, -⟩ := own_form HK.out.1 (by omega)
      simp only [Value.slice.injEq] at e'
      obtain ⟨rfl, -, rfl⟩ := e'
      obtain ⟨y1, y2, y3⟩ := rz_at R i hlt
      have e1 := HK.out.1.cellAt (i * 3) (by omega)
      have e2 := HK.out.1.cellAt (i * 3 + 1) (by omega)
      have e3 := HK.out.1.cellAt (i * 3 + 2) (by omega)
      rw [y1] at e1
      rw [y2] at e2
      rw [y3] at e3
      have hr := HK.out.2 _ (List.getElem_mem hlt)
      have hin := HRI.out _ (List.getElem_mem hlt)
      have HPU : Hid (snapB ks gs fr f T ((R.take (i + 1)).map entR) = snapB ks gs fr f T ((R.take i).map entR) ++ contB ks f T (entR R[i])) := by
        unfold snapB Hid
        rw [fm_rows R i hlt, ← List.append_assoc]
      generalize snapB ks gs fr f T ((R.take i).map entR) = b0 at *
      generalize R[i] = r at *
      obtain ⟨x, y, av, nv, cv⟩ := r
      have BP : Hid (Below w.heap.size w (wr.alloc (.cells #[.int .i64 x, .int .i64 y, .slice av nv cv] 87))) := below_on HB.out (below_alloc wr _)
      obtain ⟨jw, l1, l2⟩ := JW.out (wr.alloc (.cells #[.int .i64 x, .int .i64 y, .slice av nv cv] 87)) w.heap.size (x, y, av, nv, cv) BP.out (hr.grown (grown_later (below_alloc wr _)) (fun k e => by cases e)) hin
      have J8 := hide jw
      simp only [rtV] at J8
      generalize contB ks f T (entR (x, y, av, nv, cv)) = l8 at *
      obtain ⟨a0, n0, c0, rfl⟩ := own_slice HO.out
      clear hr hin jw y1 y2 y3
      go_wp2_with fail
      refine J8.out.mono ?_
      rintro e w8 ⟨v8, rfl, o8, hb8⟩
      obtain ⟨n8, hn8⟩ : ∃ n, n = l8.length := ⟨_, rfl⟩
      rw [← hn8] at o8 l1 l2
      obtain ⟨g8, c8, rfl, -, -⟩ := own_form o8 (by omega)
      have HN8 := hide hn8
      have O8 : Hid (∀ j u, (Lib.byteCells l8)[j]? = some u → w8.cell? ((⟨g8, 0, none⟩ : Addr).add j) = some u) := fun j u hj => by
        have hj2 : j < l8.length := by
          have := (List.getElem?_eq_some_iff.1 hj).1
          rwa [Lib.byteCells_length] at this
        rw [add_at, Nat.zero_add, o8.cellAt j (by omega)]
        exact hj
      have OB : Hid (w8.ownsRow w.heap.size 5 1 (.slice a0 n0 c0) b0.length (Lib.byteCells b0)) := own_later (own_later HO.out (below_alloc wr _)) hb8
      have HK8 : Hid (Rk w.heap.size w8 ks f T (.slice (some ⟨g, 0, none⟩) R.length k7) R) := (HK.out.later (below_alloc wr _)).later hb8
      have HB8 := hide (below_on BP.out hb8)
      clear hn8 o8 hb8 J8 HK HB HO BP
      go_wp2_with (at_builtin; refine wpList_append_own_at _ rfl _ _ 47 rfl w.heap.size 5 i0 (.int .u8 0) 1 1 Tryz.underlying47 hi0 hz0 hz1 hz2 rfl (by decide) _ b0.length (Lib.byteCells b0) rfl OB.out ⟨g8, 0, none⟩ n8 c8 (Lib.byteCells l8) rfl ?d1 O8.out (Pak.byteCells_one l8) ?d2 ?d3 HB8.out.size ?_)
      case d1 => rw [Lib.byteCells_length, ← HN8.out]; omega
      case d2 => unfold maxLen; omega
      case d3 => omega
      intro v9 w9 o9 hg9 _ _
      have O9 : Hid (w9.ownsRow w.heap.size 5 1 v9 (snapB ks gs fr f T ((R.take (i + 1)).map entR)).length (Lib.byteCells (snapB ks gs fr f T ((R.take (i + 1)).map entR)))) := by
        rw [HPU.out, List.length_append, Lib.byteCells_append, ← HN8.out]
        exact o9
      have HL9 : Hid ((snapB ks gs fr f T ((R.take (i + 1)).map entR)).length ≤ 10000 + 13000 * (i + 1)) := by
        rw [HPU.out, List.length_append, ← HN8.out]
        unfold Hid
        omega
      have HK9 := hide (HK8.out.grown OB.out hg9)
      have HB9 : Hid (Below w.heap.size w w9) := HB8.out.grown hg9 HB8.out.size (fun k e => (OB.out.lt k e).1)
      obtain ⟨a9, n9, c9, rfl⟩ := own_slice O9.out
      clear o9 hg9 OB O8 HK8 HB8 HPU
      go_wp2_with fail
      go_roundw
      case rel => exact ⟨i + 1, by omega, by go_num, HL9.out, O9, HK9, HB9⟩
      case measure => simp [intOf]; omega
    · obtain rfl : i = R.length := by omega
      have t1 : ¬ (R.length : Int) < (R.length : Int) := by omega
      have ho := HO.out
      rw [List.take_length] at ho
      have HO9 := hide ho
      clear ho HO hlen
      obtain ⟨a9, n9, c9, rfl⟩ := own_slice HO9.out
      go_wp2_with fail
      go_ret
      exact ⟨_, rfl, ⟨_, HE.out, HO9.out⟩, HB.out⟩
end
end Go.Proofs.YtfbhoemfabgjpaaGreat
