import Derived.Test.YtfbhoemfabgjpaaGreatWAdd2
import Derived.Lib.SliceRun
import Derived.Maps.RangeWalk
/-
  World: slices.DeleteFunc of parts: one kind is taken away.
-/
namespace Go.Proofs.YtfbhoemfabgjpaaGreat
open Go.RowKit
set_option maxRecDepth 100000
theorem pz_set : ∀ (l : List Pt) (i : Nat) (p : Pt), i < l.length → ((pz l).set (i * 2) (.int .i64 p.1)).set (i * 2 + 1) (ptV p) = pz (l.set i p)
  | x :: t, 0, p, _ => rfl
  | x :: t, i + 1, p, h => by
    have := pz_set t i p (by simpa using h)
    rw [show (i + 1) * 2 = i * 2 + 1 + 1 by omega]
    simpa [pz] using this
theorem pz_take : ∀ (l : List Pt) (n : Nat), (pz l).take (n * 2) = pz (l.take n)
  | [], n => by simp [pz]
  | p :: t, 0 => by simp [pz]
  | p :: t, n + 1 => by
    rw [show (n + 1) * 2 = n * 2 + 1 + 1 by omega]
    simpa [pz] using pz_take t n
theorem own_pset {w : World} {B g n c : Nat} {l : List Pt} (h : w.ownsRow B 51 2 (.slice (some ⟨g, 0, none⟩) n c) n (pz l)) (i : Nat) (p : Pt) (hi : i < l.length) : ((w.setCell ⟨g, i * 2, none⟩ (.int .i64 p.1)).setCell ⟨g, i * 2 + 1, none⟩ (ptV p)).ownsRow B 51 2 (.slice (some ⟨g, 0, none⟩) n c) n (pz (l.set i p)) := by
  rw [← pz_set l i p hi]
  exact ((h.stored (i * 2) _).1.stored (i * 2 + 1) _).1
theorem grown_two' (w : World) (g i j : Nat) (u v : Value) : w.grownBy ((w.setCell ⟨g, i, none⟩ u).setCell ⟨g, j, none⟩ v) (some g) := grown_two (grown_set _ _ _ _) (grown_set _ _ _ _)
theorem zero32 (w : World) : (zeroValue 51).run Tryz.prog w = .ok (.agg #[.int .i64 0, .slice none 0 0]) w := by kernel_rfl
theorem clear_part (w : World) (ty g o c : Nat) (h0 : (w.cell? ⟨g, o, none⟩).isSome = true) (h1 : (w.cell? ⟨g, o + 1, none⟩).isSome = true) (f0 : w.frozen? ⟨g, o, none⟩ = false) (f1 : w.frozen? ⟨g, o + 1, none⟩ = false) :
    (Builtin.clear_ #[36] ty #[.slice (some ⟨g, o, none⟩) 1 c]).run Tryz.prog w = .ok (.tuple #[]) (w.setCells g o [.int .i64 0, .slice none 0 0]) := by
  have hzc : (Builtin.zeroCells #[.int .i64 0, .slice none 0 0] 1).toList = [.int .i64 0, .slice none 0 0] := by kernel_rfl
  have hst := run_storeCells_cells (P := Tryz.prog) g o [.int .i64 0, .slice none 0 0] 0 w (by
    intro j hj
    match j, hj with
    | 0, _ => simpa using h0
    | 1, _ => simpa using h1) (by
    intro j hj
    match j, hj with
    | 0, _ => simpa using f0
    | 1, _ => simpa using f1) (by
    intro v hv
    simp at hv
    rcases hv with rfl | rfl <;> rfl)
  simp only [Nat.add_zero] at hst
  simp [Builtin.clear_, run_underlying Tryz.underlying36, Value.cells, hzc, hst]
theorem block_kind2 {w : World} {B e s n g : Nat} {e' : TypeId} {v : Value} {xs : List Value} {o : Array Value} (h : w.ownsRow B e s v n xs) (hg : w.heap[g]? = some (.cells o e' (0, 0))) (hne : e ≠ e') : v.ownBlock ≠ some g := fun hk => by
  rcases h.2 with ⟨rfl, -⟩ | ⟨g', c, cur, rfl, -, hg', -⟩
  · simp [Value.ownBlock] at hk
  · simp only [Value.ownBlock, Option.some.injEq] at hk
    subst hk
    rw [hg] at hg'
    simp only [Option.some.injEq, Obj.cells.injEq] at hg'
    exact hne hg'.2.1.symm
set_option maxHeartbeats 1000000 in
theorem isdel_any {w : World} {kb : Nat} {k x : Int} {a : Option Addr} {n c : Nat} (h : w.heap[kb]? = some (.cells #[.int .i64 k] 3 (0, 0))) :
    Calls Tryz.prog 72 #[.agg #[.int .i64 x, .slice a n c], .pointer (some ⟨kb, 0, none⟩)] w fun e w' => e = .returned (.bool (x == k)) ∧ Below w.heap.size w w' := by
  have hb := below_alloc w (.cells #[.int .i64 x, .slice a n c] 51)
  have hx := (hb.block kb (lt_of_block h)).trans h
  have c0 : (w.alloc (.cells #[.int .i64 x, .slice a n c] 51)).cell? ⟨kb, 0, none⟩ = some (.int .i64 k) := by rw [cell_of_row _ kb _ _ 3 (0, 0) hx]; rfl
  have HB := hide hb
  clear hb hx
  go_enter Tryz.func72, Tryz.ntmps72
  go_wp2_with fail
  go_ret
  exact ⟨rfl, HB.out⟩
set_option maxHeartbeats 2000000 in
theorem index_fn {w : World} {kb : Nat} {k : Int} {B : Nat} {a0 : Option Addr} {n c : Nat} {A Bq : List Pt} {p : Pt} (hk : w.heap[kb]? = some (.cells #[.int .i64 k] 3 (0, 0))) (ho : w.ownsRow B 51 2 (.slice a0 n c) n (pz (A ++ p :: Bq))) (hA : ∀ x ∈ A, x.1 ≠ k) (hp : p.1 = k) :
    Calls Tryz.prog 95 #[.slice a0 n c, .func (.func 72) #[] #[.pointer (some ⟨kb, 0, none⟩)]] w fun e w' => e = .returned (.int .i64 (A.length : Int)) ∧ Below w.heap.size w w' := by
  have hn : n = A.length + 1 + Bq.length := by
    have := ho.1
    rw [pz_len] at this
    simp at this
    omega
  obtain ⟨g, c', e, hc1, hc2⟩ := own_form ho (by omega)
  simp only [Value.slice.injEq] at e
  obtain ⟨rfl, -, rfl⟩ := e
  have HO := hide ho
  have HK := hide hk
  have HA := hide hA
  have HN := hide hn
  have HP := hide hp
  have hAn : A.length < n := by omega
  clear ho hk hA hn hp
  go_enter Tryz.func95, Tryz.ntmps95
  go_wp2_with fail
  go_loopw [8] (fun v8 W => ∃ i : Nat, i ≤ A.length ∧ v8 = .int .i64 (i : Int) ∧ Hid (Below w.heap.size w W)) (fun v8 _ => n - (intOf v8).toNat)
  case atStart => exact ⟨0, Nat.zero_le _, rfl, Below.refl _ _⟩
  case round =>
    obtain ⟨i, hi, rfl, HB⟩ := hrel
    have t1 : (i : Int) < (n : Int) := by omega
    have t0 : (0 : Int) ≤ (i : Int) := by omega
    have hlt : i < (A ++ p :: Bq).length := by have := HN.out; simp; omega
    have ho := own_later HO.out HB.out
    have e1 := ho.cellAt (i * 2) (by omega)
    have e2 := ho.cellAt (i * 2 + 1) (by omega)
    rw [(pz_at _ i hlt).1] at e1
    rw [(pz_at _ i hlt).2] at e2
    have hkb := (HB.out.block kb (lt_of_block HK.out)).trans HK.out
    have hcase : (i < A.length ∧ ((A ++ p :: Bq)[i].1 == k) = false) ∨ (i = A.length ∧ ((A ++ p :: Bq)[i].1 == k) = true) := by
      by_cases d : i < A.length
      · left
        refine ⟨d, ?_⟩
        rw [List.getElem_append_left d, beq_eq_false_iff_ne]
        exact HA.out _ (List.getElem_mem d)
      · right
        have : i = A.length := by omega
        subst this
        refine ⟨rfl, ?_⟩
        rw [List.getElem_append_right (Nat.le_refl _)]
        simp only [Nat.sub_self, List.getElem_cons_zero, HP.out, beq_self_eq_true]
    generalize (A ++ p :: Bq)[i] = x at *
    obtain ⟨xk, xa, xn, xc⟩ := x
    dsimp only at e1 e2 hcase
    have J := hide (isdel_any (x := xk) (a := xa) (n := xn) (c := xc) hkb)
    clear ho hkb
    rcases hcase with ⟨d, ht⟩ | ⟨d, ht⟩
    · rw [ht] at J
      clear ht
      go_wp2_with fail
      refine J.out.mono ?_
      rintro e w5 ⟨rfl, hb5⟩
      have HB5 := hide (below_on HB.out hb5)
      clear hb5 J
      go_wp2_with fail
      go_roundw
      case rel => exact ⟨i + 1, by omega, by go_num, HB5⟩
      case measure => simp [intOf]; omega
    · rw [ht] at J
      subst d
      clear ht
      go_wp2_with fail
      refine J.out.mono ?_
      rintro e w5 ⟨rfl, hb5⟩
      have HB5 := hide (below_on HB.out hb5)
      clear hb5 J
      go_wp2_with fail
      go_ret
      exact ⟨rfl, HB5.out⟩
/-- The list under way: m of those behind have moved up. -/
theorem del_step (A Bq : List Pt) (x : Pt) (m al : Nat) (hal : al = A.length) (hm : m < Bq.length) : (A ++ Bq.take m ++ x :: Bq.drop m).set (al + m) Bq[m] = A ++ Bq.take (m + 1) ++ Bq[m] :: Bq.drop (m + 1) ∧ ∃ h : al + 1 + m < (A ++ Bq.take m ++ x :: Bq.drop m).length, (A ++ Bq.take m ++ x :: Bq.drop m)[al + 1 + m] = Bq[m] := by
  subst hal
  have hl : (A ++ Bq.take m).length = A.length + m := by rw [List.length_append, List.length_take]; omega
  have hd : Bq.drop m = Bq[m] :: Bq.drop (m + 1) := List.drop_eq_getElem_cons hm
  refine ⟨?_, by simp; omega, ?_⟩
  · rw [List.set_append_right _ _ (by omega), hl, Nat.sub_self, List.set_cons_zero, ← hd, List.take_succ_eq_append_getElem hm]
    rw [List.append_assoc A, List.append_assoc A, List.append_assoc]
    rfl
  · rw [List.getElem_append_right (by omega)]
    have : A.length + 1 + m - (A ++ Bq.take m).length = 1 := by omega
    simp only [this, List.getElem_cons_succ, hd, List.getElem_cons_zero]
set_option maxHeartbeats 8000000 in
theorem delete_fn {w : World} {kb : Nat} {k : Int} {B : Nat} {a0 : Option Addr} {n c : Nat} {A Bq : List Pt} {p : Pt} (hk : w.heap[kb]? = some (.cells #[.int .i64 k] 3 (0, 0))) (ho : w.ownsRow B 51 2 (.slice a0 n c) n (pz (A ++ p :: Bq))) (hA : ∀ x ∈ A, x.1 ≠ k) (hB : ∀ x ∈ Bq, x.1 ≠ k) (hp : p.1 = k) :
    Calls Tryz.prog 71 #[.slice a0 n c, .func (.func 72) #[] #[.pointer (some ⟨kb, 0, none⟩)]] w fun e w' => ∃ v, e = .returned v ∧ v.ownBlock = (Value.slice a0 n c).ownBlock ∧ w'.ownsRow B 51 2 v (A ++ Bq).length (pz (A ++ Bq)) ∧ w.grownBy w' (Value.slice a0 n c).ownBlock := by
  have J1 := hide (index_fn hk ho hA hp)
  have hn : n = A.length + 1 + Bq.length := by
    have := ho.1
    rw [pz_len] at this
    simp at this
    omega
  obtain ⟨g, c', e, hc1, hc2⟩ := own_form ho (by omega)
  simp only [Value.slice.injEq] at e
  obtain ⟨rfl, -, rfl⟩ := e
  have hkg : kb ≠ g := fun e => block_kind2 ho hk (by decide) (by rw [e]; rfl)
  have H0 : Hid (∀ W, Below w.heap.size w W → W.ownsRow B 51 2 (.slice (some ⟨g, 0, none⟩) n c) n (pz (A ++ Bq.take 0 ++ p :: Bq.drop 0)) ∧ w.grownBy W (some g)) := fun W hW => ⟨by simpa using own_later ho hW, (grown_later hW).but _⟩
  have HK := hide hk
  have HB := hide hB
  have hn48 : n ≤ 9223372036854775807 := by omega
  have HN := hide hn
  have HKG := hide hkg
  have ta : ((A.length : Int) == -1) = false := by rw [beq_eq_false_iff_ne]; omega
  clear ho hk hA hB hn hp hkg
  go_enter Tryz.func71, Tryz.ntmps71
  go_wp2_with fail
  refine J1.out.mono ?_
  rintro e w1 ⟨rfl, hb1⟩
  have H1 := hide (H0.out w1 hb1)
  clear J1 H0 hb1
  have tl : IntKind.i64.wrap ((A.length : Int) + 1) = ((A.length + 1 : Nat) : Int) := by rw [IntKind.wrap_i64]; have := HN.out; omega
  obtain ⟨al, hal⟩ : ∃ x, x = A.length := ⟨_, rfl⟩
  rw [← hal] at ta tl ⊢
  have HAL := hide hal
  clear hal
  go_wp2_with fail
  go_loopw [5, 6] (fun v5 v6 W => ∃ (m : Nat) (x : Pt), m ≤ Bq.length ∧ v6 = .int .i64 ((al + 1 + m : Nat) : Int) ∧ v5 = .int .i64 ((al + m : Nat) : Int) ∧ Hid (W.ownsRow B 51 2 (.slice (some ⟨g, 0, none⟩) n c) n (pz (A ++ Bq.take m ++ x :: Bq.drop m)) ∧ w.grownBy W (some g))) (fun _ v6 _ => n - (intOf v6).toNat)
  case atStart => exact ⟨0, p, Nat.zero_le _, rfl, rfl, H1⟩
  case round =>
    obtain ⟨m, x, hml, rfl, rfl, HM⟩ := hrel
    by_cases hlt : m < Bq.length
    · have t1 : ((al + 1 + m : Nat) : Int) < (n : Int) := by have := HN.out; have := HAL.out; omega
      have t2 : (0 : Int) ≤ ((al + 1 + m : Nat) : Int) := by omega
      have t3 : ((al + m : Nat) : Int) < (n : Int) := by omega
      have t4 : (0 : Int) ≤ ((al + m : Nat) : Int) := by omega
      obtain ⟨ds, hi, de⟩ := del_step A Bq x m al HAL.out hlt
      obtain ⟨e1, e2⟩ := own_part HM.out.1 (al + 1 + m) hi
      have hset := own_pset HM.out.1 (al + m) Bq[m] (by omega)
      rw [de] at e1 e2
      have hne := HB.out _ (List.getElem_mem hlt)
      obtain ⟨j1, hj1⟩ : ∃ j, j = al + 1 + m := ⟨_, rfl⟩
      obtain ⟨j0, hj0⟩ : ∃ j, j = al + m := ⟨_, rfl⟩
      have t5 : IntKind.i64.wrap ((j1 : Int) + 1) = ((al + 1 + (m + 1) : Nat) : Int) := by rw [IntKind.wrap_i64]; omega
      have t6 : IntKind.i64.wrap ((j0 : Int) + 1) = ((al + (m + 1) : Nat) : Int) := by rw [IntKind.wrap_i64]; omega
      rw [← hj1] at e1 e2 t1 t2 ⊢
      rw [← hj0] at hset t3 t4 ⊢
      obtain ⟨z, hz'⟩ : ∃ z, Bq[m] = z := ⟨_, rfl⟩
      rw [hz'] at e1 e2 hset hne
      obtain ⟨zk, za, zn, zc'⟩ := z
      dsimp only [ptV] at e1 e2 hset hne
      have hkb := (HM.out.2.block kb (lt_of_block HK.out) (fun e => HKG.out (Option.some.inj e))).trans HK.out
      have hb5a := below_alloc wr (.cells #[.int .i64 zk, .slice za zn zc'] 51)
      have J := hide (isdel_any (x := zk) (a := za) (n := zn) (c := zc') ((hb5a.block kb (lt_of_block hkb)).trans hkb))
      rw [show (zk == k) = false by rw [beq_eq_false_iff_ne]; exact hne] at J
      obtain ⟨kc, hkc⟩ : ∃ q, q = wr.heap.size := ⟨_, rfl⟩
      have hxc : (wr.alloc (.cells #[.int .i64 zk, .slice za zn zc'] 51)).heap[kc]? = some (.cells #[.int .i64 zk, .slice za zn zc'] 51 (0, 0)) := by rw [hkc]; exact heap_alloc_new wr _
      obtain ⟨wa, hwa⟩ : ∃ X, X = wr.alloc (.cells #[.int .i64 zk, .slice za zn zc'] 51) := ⟨_, rfl⟩
      rw [← hwa] at J hxc hb5a
      have a0 : wa.cell? ⟨kc, 0, none⟩ = some (.int .i64 zk) := by rw [cell_of_row wa kc _ _ 51 (0, 0) hxc]; rfl
      have a1 : wa.cell? ⟨kc, 1, none⟩ = some (.slice za zn zc') := by rw [cell_of_row wa kc _ _ 51 (0, 0) hxc]; rfl
      have HXC := hide hxc
      have HBA := hide hb5a
      have HSET : Hid (∀ W, Below wr.heap.size wr W → (W.cell? ⟨g, j0 * 2, none⟩).isSome = true ∧ (W.cell? ⟨g, j0 * 2 + 1, none⟩).isSome = true ∧ W.frozen? ⟨g, j0 * 2, none⟩ = false ∧ W.frozen? ⟨g, j0 * 2 + 1, none⟩ = false ∧ ((W.setCell ⟨g, j0 * 2, none⟩ (.int .i64 zk)).setCell ⟨g, j0 * 2 + 1, none⟩ (.slice za zn zc')).ownsRow B 51 2 (.slice (some ⟨g, 0, none⟩) n c) n (pz (A ++ Bq.take (m + 1) ++ (zk, za, zn, zc') :: Bq.drop (m + 1))) ∧ w.grownBy ((W.setCell ⟨g, j0 * 2, none⟩ (.int .i64 zk)).setCell ⟨g, j0 * 2 + 1, none⟩ (.slice za zn zc')) (some g)) := fun W hW => by
        have ho := own_later HM.out.1 hW
        have hl : (pz (A ++ Bq.take m ++ x :: Bq.drop m)).length = n * 2 := ho.1
        have q0 := ho.cellAt (j0 * 2) (by omega)
        have q1 := ho.cellAt (j0 * 2 + 1) (by omega)
        refine ⟨by rw [q0, List.getElem?_eq_getElem (by omega)]; rfl, by rw [q1, List.getElem?_eq_getElem (by omega)]; rfl, ho.frozenAt _, ho.frozenAt _, ?_, ?_⟩
        · have := own_pset ho j0 (zk, za, zn, zc') (by rw [pz_len] at hl; omega)
          rw [hj0, ← hz', ds, hz'] at this
          rw [hj0]
          exact this
        · exact HM.out.2.andThen ((grown_later hW).but _ |>.andThen (grown_two' W g _ _ _ _) (fun q e => .inr e)) (fun q e => .inr e)
      have HJ1 := hide hj1
      have HJ0 := hide hj0
      clear hset hkb hne ds de hi HM hxc hb5a hz' hj1 hj0
      go_wp2_with fail
      rw [← hwa, ← hkc]
      clear hwa hkc e1 e2
      refine J.out.mono ?_
      rintro e w5 ⟨rfl, hb5⟩
      have b0 : w5.cell? ⟨kc, 0, none⟩ = some (.int .i64 zk) := (hb5.cell (p := ⟨kc, 0, none⟩) (lt_of_block HXC.out)).trans a0
      have b1 : w5.cell? ⟨kc, 1, none⟩ = some (.slice za zn zc') := (hb5.cell (p := ⟨kc, 1, none⟩) (lt_of_block HXC.out)).trans a1
      obtain ⟨s0, s1, s2, s3, s4, s5⟩ := HSET.out w5 (below_on HBA.out hb5)
      obtain ⟨u0, s0⟩ := Option.isSome_iff_exists.1 s0
      obtain ⟨u1, s1⟩ := Option.isSome_iff_exists.1 s1
      have HE : Hid (((w5.setCell ⟨g, j0 * 2, none⟩ (.int .i64 zk)).setCell ⟨g, j0 * 2 + 1, none⟩ (.slice za zn zc')).ownsRow B 51 2 (.slice (some ⟨g, 0, none⟩) n c) n (pz (A ++ Bq.take (m + 1) ++ (zk, za, zn, zc') :: Bq.drop (m + 1))) ∧ w.grownBy ((w5.setCell ⟨g, j0 * 2, none⟩ (.int .i64 zk)).setCell ⟨g, j0 * 2 + 1, none⟩ (.slice za zn zc')) (some g)) := ⟨s4, s5⟩
      clear s4 s5 HSET J a0 a1 hb5
      go_wp2_with fail
      go_roundw
      case rel => exact ⟨m + 1, (zk, za, zn, zc'), by omega, rfl, rfl, HE⟩
      case measure => have := HJ1.out; simp only [intOf]; omega
    · have hmn : m = Bq.length := by omega
      have t1 : ¬ ((al + 1 + m : Nat) : Int) < (n : Int) := by have := HN.out; have := HAL.out; omega
      have hho := HM.out.1
      rw [hmn, List.take_length, List.drop_length] at hho
      obtain ⟨j0, hj0⟩ : ∃ j, j = al + m := ⟨_, rfl⟩
      have hjn : j0 + 1 = n := by have := HN.out; have := HAL.out; omega
      have hl : (pz (A ++ Bq ++ [x])).length = n * 2 := hho.1
      have q0 := hho.cellAt (j0 * 2) (by omega)
      have q1 := hho.cellAt (j0 * 2 + 1) (by omega)
      have s0 : (wr.cell? ⟨g, j0 * 2, none⟩).isSome = true := by rw [q0, List.getElem?_eq_getElem (by omega)]; rfl
      have s1 : (wr.cell? ⟨g, j0 * 2 + 1, none⟩).isSome = true := by rw [q1, List.getElem?_eq_getElem (by omega)]; rfl
      have hcl := clear_part wr 0 g (j0 * 2) (c - j0) s0 s1 (hho.frozenAt _) (hho.frozenAt _)
      have hpz : (((pz (A ++ Bq ++ [x])).set (j0 * 2) (.int .i64 0)).set (j0 * 2 + 1) (.slice none 0 0)).take (j0 * 2) = pz (A ++ Bq) := by
        have e : j0 = (A ++ Bq).length := by rw [List.length_append]; have := HAL.out; omega
        rw [List.take_set_of_le (by omega), List.take_set_of_le (by omega), pz_take, e, List.take_left' rfl]
      have hset : (wr.setCells g (j0 * 2) [.int .i64 0, .slice none 0 0]).ownsRow B 51 2 (.slice (some ⟨g, 0, none⟩) j0 c) j0 (pz (A ++ Bq)) ∧ w.grownBy (wr.setCells g (j0 * 2) [.int .i64 0, .slice none 0 0]) (some g) := by
        have h2 := ((hho.stored (j0 * 2) (.int .i64 0)).1.stored (j0 * 2 + 1) (.slice none 0 0)).1
        have h3 := own_prefix h2 (n := j0) (by omega)
        rw [hpz] at h3
        exact ⟨h3, HM.out.2.andThen (grown_two' wr g _ _ _ _) (fun q e => .inr e)⟩
      have HE : Hid ((wr.setCells g (j0 * 2) [.int .i64 0, .slice none 0 0]).ownsRow B 51 2 (.slice (some ⟨g, 0, none⟩) j0 c) (A ++ Bq).length (pz (A ++ Bq)) ∧ w.grownBy (wr.setCells g (j0 * 2) [.int .i64 0, .slice none 0 0]) (some g)) := by
        have e : j0 = (A ++ Bq).length := by rw [List.length_append]; have := HAL.out; omega
        rw [← e]
        exact hset
      have hsub : n - j0 = 1 := by omega
      have t3 : ((j0 : Nat) : Int) ≤ (n : Int) := by omega
      have t4 : (0 : Int) ≤ ((j0 : Nat) : Int) := by omega
      have t5 : ((j0 : Nat) : Int) ≤ (c : Int) := by omega
      rw [← hj0]
      clear hho hl q0 q1 s0 s1 hpz hset HM hmn hj0
      go_wp2_with fail
      go_ret
      exact ⟨_, rfl, rfl, by simpa using HE.out.1, HE.out.2⟩
end Go.Proofs.YtfbhoemfabgjpaaGreat

/-
  World: Remove, where all is well.
-/
namespace Go.Proofs.YtfbhoemfabgjpaaGreat
open Go.RowKit
set_option maxRecDepth 100000
section
variable {w w' : World} {own : Nat → Nat} {gw gp gm gt M M' : Nat} {vk : Value} {ks : List Kind} {gs fr gs' fr' : List Nat} {f f' : Int × Int → Option Nat} {q q' : Nat → Option Nat} {T T' : Nat → Ts}
/-- Parts in memory of their own are put. -/
theorem pv_put {W W' : World} {own1 : Nat → Nat} {v : Value} {l : List Pt} {R : List (Nat × List Int)} (h1 : W.ownsRow w.heap.size 51 2 v l.length (pz l)) (h2 : Pv w.heap.size W l R) (h3 : Below w.heap.size w W) (hpg : Pg ks l) (hks : ks.length ≤ 12) (hk4 : ∀ x ∈ ks, x.2.length ≤ 4)
    (hX : Wx 0 W' own1 gw vk gp gm gt M ks gs fr f q T) (hK : Wk (rel own w 0) own1 W W') (hw : Wi ks f q T) (a b : Int) (hib : InB (a, b)) (hfn : f (a, b) = none) (hcnt : ∀ E : List (Int × Int), E.Nodup → (∀ e ∈ E, (f e).isSome = true) → E.length < 200) (hM : M ≤ 900000) :
    Calls Tryz.prog 67 #[.pointer (some ⟨gw, 0, none⟩), .agg #[.int .i64 a, .int .i64 b], v] W' fun e w' => e = .returned (.tuple #[]) ∧ ∃ (vals' : List Int) (g : Nat) (own' : Nat → Nat), Wx 0 w' own' gw vk gp gm gt (M + 3) ks gs fr (fun y => if y = (a, b) then some (setOf l) else f y) (fun y => if y = setOf l then some g else q y) (moreT q T (setOf l) (a, b) vals') ∧ Wk own own' w w' ∧ Wi ks (fun y => if y = (a, b) then some (setOf l) else f y) (fun y => if y = setOf l then some g else q y) (moreT q T (setOf l) (a, b) vals') ∧ vals'.length = fsum ks (setOf l) 1 ∧ ∀ r, r ∈ partsL ks (setOf l) 1 vals' ↔ r ∈ R := by
  have hnew : ∀ k, w.heap.size ≤ k → rel own w 0 k = 0 := fun k hk => rel_new hk
  have hm := hK.mv
  have o1 := hm.own h1 (fun k e e2 => e2 (hnew k (h1.lt k e).1))
  have hIzL : ∀ (i : Nat) (i1 : i < l.length) (i2 : i < R.length), Iz W' (ptV l[i]) R[i].2 := fun i i1 i2 => by
    have hb := (h2.2 i i1 i2).2
    exact Iz.own (hm.own hb (fun k e e2 => e2 (hnew k (hb.lt k e).1)))
  have hV : ∀ p ∈ l, Iz W' (ptV p) (valsOf W' (ptV p)) ∧ (p.2.1 = none → p.2.2 = (0, 0)) := fun p hp => by
    obtain ⟨i, hi, rfl⟩ := List.getElem_of_mem hp
    have i2 : i < R.length := by rw [← h2.1]; exact hi
    have := hIzL i hi i2
    refine ⟨by rw [this.vals]; exact this, fun e => ?_⟩
    rcases (h2.2 i hi i2).2.2 with ⟨e', -⟩ | ⟨g, c, cur, e', -⟩
    · simp only [ptV, Value.slice.injEq] at e'
      exact Prod.ext e'.2.1 e'.2.2
    · simp only [ptV, Value.slice.injEq] at e'
      rw [e] at e'
      cases e'.1
  refine (put_parts hX hw hks hk4 a b hib hfn hcnt hM v l (fun p => valsOf W' (ptV p)) (Rp.own o1) hpg hV).mono ?_
  rintro e w' ⟨rfl, vals', g, own', r1, r2, r3, r4, r5⟩
  refine ⟨rfl, vals', g, own', r1, ((Wk.later h3).trans hK).trans r2, r3, r4, fun r => ?_⟩
  rw [r5]
  constructor
  · rintro ⟨p, hp, rfl⟩
    obtain ⟨i, hi, rfl⟩ := List.getElem_of_mem hp
    have i2 : i < R.length := by rw [← h2.1]; exact hi
    rw [(hIzL i hi i2).vals, (h2.2 i hi i2).1]
    exact List.getElem_mem i2
  · intro hr
    obtain ⟨i, hi, rfl⟩ := List.getElem_of_mem hr
    have i1 : i < l.length := by rw [h2.1]; exact hi
    refine ⟨l[i], List.getElem_mem i1, ?_⟩
    rw [(hIzL i i1 hi).vals, (h2.2 i i1 hi).1]
    rfl
/-- One of the parts, and what is left without it. -/
theorem parts_less {B s k : Nat} {W : World} {row : List Int} {L : List Pt} (h : Pv B W L (partsL ks s 1 row)) (hr : row.length = fsum ks s 1) (hsb : Sb ks s) (_hks : ks.length ≤ 12) (hk1 : 1 ≤ k) (hk2 : k ≤ ks.length) (hb : s.testBit k = true) :
    ∃ (A Bq : List Pt) (p : Pt) (R : List (Nat × List Int)), L = A ++ p :: Bq ∧ (∀ x ∈ A, x.1 ≠ (k : Int)) ∧ (∀ x ∈ Bq, x.1 ≠ (k : Int)) ∧ p.1 = (k : Int) ∧ (∀ W', (∀ i (h1 : i < L.length) (h2 : i < (partsL ks s 1 row).length), W'.ownsRow B 2 1 (ptV L[i]) (partsL ks s 1 row)[i].2.length (zc (partsL ks s 1 row)[i].2)) → Pv B W' (A ++ Bq) R) ∧ (∀ r, r ∈ R ↔ r ∈ partsL ks s 1 row ∧ r.1 ≠ k) ∧ Pg ks (A ++ Bq) ∧ setOf (A ++ Bq) = s ^^^ 2 ^ k := by
  obtain ⟨r0, hr0, hrk⟩ := partsL_all ks s 1 row k hk1 (by omega) hb
  obtain ⟨i, hi, rfl⟩ := List.getElem_of_mem hr0
  have hpair := List.pairwise_iff_getElem.1 (partsL_pair ks s 1 row)
  have hlen := h.1
  have hiL : i < L.length := by omega
  have hkind : ∀ j (h1 : j < L.length) (h2 : j < (partsL ks s 1 row).length), L[j].1 = ((partsL ks s 1 row)[j].1 : Int) := fun j h1 h2 => (h.2 j h1 h2).1
  have hne : ∀ j (h1 : j < L.length), j ≠ i → L[j].1 ≠ (k : Int) := fun j h1 hji e => by
    have h2 : j < (partsL ks s 1 row).length := by omega
    rw [hkind j h1 h2] at e
    have e2 : (partsL ks s 1 row)[j].1 = (partsL ks s 1 row)[i].1 := by omega
    rcases Nat.lt_or_gt_of_ne hji with c | c
    · have := hpair j i h2 hi c; omega
    · have := hpair i j hi h2 c; omega
  have hsplit : L = L.take i ++ L[i] :: L.drop (i + 1) := by rw [List.getElem_cons_drop, List.take_append_drop]
  have hRs : partsL ks s 1 row = (partsL ks s 1 row).take i ++ (partsL ks s 1 row)[i] :: (partsL ks s 1 row).drop (i + 1) := by rw [List.getElem_cons_drop, List.take_append_drop]
  have hti : (L.take i).length = i := by rw [List.length_take]; omega
  have htR : ((partsL ks s 1 row).take i).length = i := by rw [List.length_take]; omega
  have hmemR : ∀ r, r ∈ (partsL ks s 1 row).take i ++ (partsL ks s 1 row).drop (i + 1) ↔ r ∈ partsL ks s 1 row ∧ r.1 ≠ k := fun r => by
    have hxk : ∀ x ∈ (partsL ks s 1 row).take i ++ (partsL ks s 1 row).drop (i + 1), x.1 ≠ k := fun x hx e => by
      rcases List.mem_append.1 hx with hx | hx
      · obtain ⟨j, hj, rfl⟩ := List.getElem_of_mem hx
        rw [htR] at hj
        rw [List.getElem_take] at e
        have := hpair j i (by omega) hi hj
        omega
      · obtain ⟨j, hj, rfl⟩ := List.getElem_of_mem hx
        rw [List.length_drop] at hj
        rw [List.getElem_drop] at e
        have := hpair i (i + 1 + j) hi (by omega) (by omega)
        omega
    constructor
    · intro hx
      refine ⟨?_, hxk r hx⟩
      rw [hRs]
      rcases List.mem_append.1 hx with hx | hx
      · exact List.mem_append_left _ hx
      · exact List.mem_append_right _ (List.mem_cons_of_mem _ hx)
    · rintro ⟨hx, hk⟩
      rw [hRs] at hx
      rcases List.mem_append.1 hx with hx | hx
      · exact List.mem_append_left _ hx
      · rcases List.mem_cons.1 hx with rfl | hx
        · exact absurd hrk hk
        · exact List.mem_append_right _ hx
  have hmemL : ∀ x ∈ L.take i ++ L.drop (i + 1), ∃ j, ∃ (h1 : j < L.length), L[j] = x ∧ j ≠ i := fun x hx => by
    rcases List.mem_append.1 hx with hx | hx
    · obtain ⟨j, hj, rfl⟩ := List.getElem_of_mem hx
      rw [hti] at hj
      exact ⟨j, by omega, by rw [List.getElem_take], by omega⟩
    · obtain ⟨j, hj, rfl⟩ := List.getElem_of_mem hx
      rw [List.length_drop] at hj
      exact ⟨i + 1 + j, by omega, by rw [List.getElem_drop], by omega⟩
  have hpv : ∀ W', (∀ i (h1 : i < L.length) (h2 : i < (partsL ks s 1 row).length), W'.ownsRow B 2 1 (ptV L[i]) (partsL ks s 1 row)[i].2.length (zc (partsL ks s 1 row)[i].2)) → Pv B W' (L.take i ++ L.drop (i + 1)) ((partsL ks s 1 row).take i ++ (partsL ks s 1 row).drop (i + 1)) := fun W' hW => by
    refine ⟨by simp [hlen], fun j j1 j2 => ?_⟩
    by_cases c : j < i
    · rw [List.getElem_append_left (by omega), List.getElem_append_left (by omega)]
      simp only [List.getElem_take]
      exact ⟨hkind j (by omega) (by omega), hW j (by omega) (by omega)⟩
    · rw [List.length_append, hti, List.length_drop] at j1
      rw [List.getElem_append_right (by omega), List.getElem_append_right (by omega)]
      simp only [List.getElem_drop, hti, htR]
      exact ⟨hkind _ (by omega) (by omega), hW _ (by omega) (by omega)⟩
  refine ⟨L.take i, L.drop (i + 1), L[i], _, hsplit, fun x hx e => ?_, fun x hx e => ?_, by rw [hkind i hiL hi, hrk], hpv, hmemR, ?_, ?_⟩
  · obtain ⟨j, j1, rfl, j3⟩ := hmemL x (List.mem_append_left _ hx)
    exact hne j j1 j3 e
  · obtain ⟨j, j1, rfl, j3⟩ := hmemL x (List.mem_append_right _ hx)
    exact hne j j1 j3 e
  · have hv := hpv W (fun i h1 h2 => (h.2 i h1 h2).2)
    have hln : ∀ x ∈ L.take i ++ L.drop (i + 1), ∃ r ∈ partsL ks s 1 row, x.1 = (r.1 : Int) ∧ x.2.2.1 = r.2.length := fun x hx => by
      obtain ⟨j, j1, rfl, j3⟩ := hmemL x hx
      refine ⟨_, List.getElem_mem (by omega : j < (partsL ks s 1 row).length), hkind j j1 (by omega), ?_⟩
      obtain ⟨ao, c, e⟩ := own_len (h.2 j j1 (by omega)).2
      simp only [ptV, Value.slice.injEq] at e
      exact e.2.1
    refine ⟨fun x hx => ?_, ?_⟩
    · obtain ⟨r, hr', e1, e2⟩ := hln x hx
      have m1 := partsL_mem ks s 1 row r hr'
      have m2 := partsL_len ks s 1 row hr r hr'
      refine ⟨by omega, by omega, ?_⟩
      rw [e2, m2, e1]
      simp
    · have hm : L.map (fun p => p.1.toNat - 1) = (partsL ks s 1 row).map (fun r => r.1 - 1) := by
        refine List.ext_getElem (by simp [hlen]) (fun j j1 j2 => ?_)
        simp only [List.length_map] at j1 j2
        simp only [List.getElem_map]
        rw [hkind j j1 j2]
        simp
      have hn : (L.map (fun p => p.1.toNat - 1)).Nodup := by
        rw [hm]
        refine List.pairwise_map.2 (List.Pairwise.imp_of_mem (fun {x y} hx hy hlt => ?_) (partsL_pair ks s 1 row))
        have a1 := partsL_mem ks s 1 row x hx
        have a2 := partsL_mem ks s 1 row y hy
        omega
      have hsub : (L.take i ++ L.drop (i + 1)).Sublist L := by
        conv => rhs; rw [hsplit]
        exact List.Sublist.append (List.Sublist.refl _) (List.sublist_cons_self _ _)
      exact hn.sublist (hsub.map _)
  · refine Nat.eq_of_testBit_eq (fun j => ?_)
    rw [setOf_bit, Nat.testBit_xor, Nat.testBit_two_pow, Bool.eq_iff_iff]
    have h1 : ((L.take i ++ L.drop (i + 1)).any fun p => p.1.toNat == j) = true ↔ s.testBit j = true ∧ j ≠ k := by
      rw [List.any_eq_true]
      constructor
      · rintro ⟨x, hx, e⟩
        obtain ⟨m, m1, rfl, m3⟩ := hmemL x hx
        have hk' := hkind m m1 (by omega)
        have e' := beq_iff_eq.1 e
        have e2 : (partsL ks s 1 row)[m].1 = j := by omega
        refine ⟨by rw [← e2]; exact (partsL_mem ks s 1 row _ (List.getElem_mem _)).2.2, fun e3 => hne m m1 m3 (by omega)⟩
      · rintro ⟨hj, hjk⟩
        have := hsb j hj
        obtain ⟨r, hr', e⟩ := partsL_all ks s 1 row j this.1 (by omega) hj
        obtain ⟨m, m1, rfl⟩ := List.getElem_of_mem hr'
        have hm1 : m < L.length := by omega
        have hmi : m ≠ i := fun e' => by subst e'; omega
        refine ⟨L[m], ?_, by rw [hkind m hm1 m1, e]; simp⟩
        rcases Nat.lt_or_gt_of_ne hmi with c | c
        · refine List.mem_append_left _ ?_
          have := List.getElem_mem (l := L.take i) (n := m) (by omega)
          rwa [List.getElem_take] at this
        · refine List.mem_append_right _ ?_
          have := List.getElem_mem (l := L.drop (i + 1)) (n := m - (i + 1)) (by rw [List.length_drop]; omega)
          rw [List.getElem_drop] at this
          have e' : i + 1 + (m - (i + 1)) = m := by omega
          simpa only [e'] using this
    rw [h1]
    by_cases c : k = j
    · subst c
      simp [hb]
    · have : ¬ j = k := fun e => c e.symm
      simp [c, this]
end
end Go.Proofs.YtfbhoemfabgjpaaGreat
