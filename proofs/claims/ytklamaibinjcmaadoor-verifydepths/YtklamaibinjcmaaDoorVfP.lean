/-
  Verify: slices.Concat of numbers.
-/
import Derived.Test.YtklamaibinjcmaaDoorMgF
import Derived.Test.YtklamaibinjcmaaDoorEnA
import Derived.Lib.AppendZerosOnto
import Derived.Lib.Walk
import Derived.Lib.SliceRun
namespace Go.Proofs.YtklamaibinjcmaaDoor
open Go.RowKit
set_option maxRecDepth 100000
set_option maxHeartbeats 2000000 in
theorem growi_zero (w : World) : Calls Tryd.prog 78 #[.slice none 0 0, .int .i64 0] w fun e w' => e = .returned (.slice none 0 0) ∧ w' = w := by
  go_enter Tryd.func78, Tryd.ntmps78
  go_wp2_with fail
  go_ret
  exact ⟨rfl, rfl⟩
set_option maxHeartbeats 2000000 in
theorem growi_some (n : Nat) (w : World) (h0 : 0 < n) (hn : n ≤ 1000000000) :
    Calls Tryd.prog 78 #[.slice none 0 0, .int .i64 n] w fun e w' => ∃ v', e = .returned v' ∧ w'.ownsRow w.heap.size 3 1 v' 0 [] ∧ Below w.heap.size w w' := by
  obtain ⟨i0, hi, hz0, hz1, hz2⟩ := info_parts infoI2
  have hrz : ∀ ty, (Builtin.append_ #[32, 3] ty #[.slice none 0 0, .int .i64 (n : Int)]).run Tryd.prog w =
      .ok (.slice (some ⟨w.heap.size, 0, none⟩) n (grownCap w n 0 3)) (w.drew.alloc (.cells (#[] ++ Builtin.zeroCells (Value.int .i64 0).cells n ++ Builtin.zeroCells (Value.int .i64 0).cells (grownCap w n 0 3 - n)) 3)) := fun ty => by
    have h := Lib.run_append_grow_zeros (P := Tryd.prog) w 32 3 ty 3 i0 (.int .i64 0) .i64 .i64 Tryd.underlying32 Tryd.underlying3 hi hz0 none 0 0 [] (run_firstCells_none w.drew i0.size 0 0 0) n h0 (by omega) (by omega) (by omega) (by rw [hz2]; omega) (by rw [Nat.zero_add]; exact growslice_fits h0 (by rw [hz2]; omega))
    simpa using h
  have hG := grownCap_ge w n 0 3
  have hM := grownCap_le_maxLen w n 0 3 (by unfold maxLen; omega)
  have hM' : grownCap w n 0 3 ≤ 9223372036854775807 := by unfold maxLen at hM; omega
  generalize grownCap w n 0 3 = G at *
  have HM := hide hM
  clear hM
  go_enter Tryd.func78, Tryd.ntmps78
  go_wp2_with (at_builtin; refine Lib.wpList_append_run _ rfl _ _ _ _ rfl _ _ rfl rfl _ _ (hrz _) ?_)
  go_ret
  refine ⟨_, rfl, ⟨by simp, .inr ⟨w.heap.size, G, _, rfl, Nat.le_refl _, heap_alloc_new w.drew _, Nat.zero_le _, HM.out, ?_, by simp⟩⟩, ?_⟩
  · simp [Builtin.zeroCells]
    omega
  · exact ((Below.refl _ w).drew).alloc (Nat.le_refl _) _
theorem growi_any (n : Nat) (w : World) (hn : n ≤ 1000000000) :
    Calls Tryd.prog 78 #[.slice none 0 0, .int .i64 n] w fun e w' => ∃ v', e = .returned v' ∧ w'.ownsRow w.heap.size 3 1 v' 0 [] ∧ Below w.heap.size w w' := by
  by_cases h0 : 0 < n
  · exact growi_some n w h0 hn
  · obtain rfl : n = 0 := by omega
    exact (growi_zero w).mono fun e w' ⟨he, hw⟩ => ⟨_, he, World.ownsRow_nil _ _ _ _, hw ▸ Below.refl _ _⟩
/-- Numbers that are read, put behind an own row. -/
theorem appendNl {Q' : Nat → Prop} {w : World} {ops : Array Oper} {rest : List Oper} {o : Oper} {a : Act} {Q : Exit → Act → World → Prop} (hgd : o.guard = none) (s x : Operand)
    (ho : o.op = .call { callee := .builtin .append, args := #[s, x], argTypes := #[32, 32] })
    (base : Nat) (v : Value) (n : Nat) (xs : List Value) (hs : a.eval s = v) (hown : w.ownsRow base 3 1 v n xs) (vx : Value) (l : List Int) (hx : a.eval x = vx) (hl : Nl Q' w vx l) (hb : n + l.length ≤ 10000000000) (hbase : base ≤ w.heap.size)
    (h : ∀ v' w', w'.ownsRow base 3 1 v' (n + l.length) (xs ++ zq l) → w.grownBy w' v.ownBlock → wpList Tryd.prog ops Q rest (a.put o.dst v') w') :
    wpList Tryd.prog ops Q (o :: rest) a w := by
  refine wpList_plain hgd fun K hK => ?_
  obtain ⟨i0, hi, hz0, hz1, hz2⟩ := info_parts infoI2
  have hn := @Nl.nth
  obtain ⟨ao, c, rfl, h1, h2⟩ := hl.at
  have main : ∃ v' w', (Builtin.append_ #[32, 32] o.type #[v, .slice ao l.length c]).run Tryd.prog w = .ok v' w' ∧ w'.ownsRow base 3 1 v' (n + l.length) (xs ++ zq l) ∧ w.grownBy w' v.ownBlock := by
    cases ao with
    | none =>
      obtain rfl : l = [] := by
        cases l with
        | nil => rfl
        | cons y t =>
          obtain ⟨g, o, e, -⟩ := hl.nth (k := 0) (by simp)
          cases e
      refine ⟨v, w, ?_, by simpa [zq] using hown, World.grownBy.refl _ _⟩
      rcases hown.2 with ⟨rfl, rfl⟩ | ⟨g, cap, cur, rfl, _, _, hnc, _⟩
      · simp [Builtin.append_, run_underlying Tryd.underlying32, typeInfo, hi, Builtin.lenOf, Builtin.firstCells]
      · simp [Builtin.append_, run_underlying Tryd.underlying32, typeInfo, hi, Builtin.lenOf, Builtin.firstCells, hnc, storeCells]
    | some ad =>
      obtain ⟨v', w', hr, a2, a3, -, -⟩ := run_append_own_at (P := Tryd.prog) w base 32 o.type 3 i0 (.int .i64 0) 1 8 Tryd.underlying32 hi hz0 hz1 hz2 rfl (by decide) v n xs hown ad l.length c (zq l) (by rw [zq_len]; omega) (fun j u hj => by
        have hj2 : j < l.length := by
          have := (List.getElem?_eq_some_iff.1 hj).1
          rwa [zq_len] at this
        obtain ⟨g', o', e3, -, z4, -⟩ := hl.nth hj2
        obtain rfl := Option.some.inj e3
        have hj3 : (zq l)[j]? = some (.int .i64 l[j]) := by simp [zq, hj2]
        rw [hj3] at hj
        rw [show (⟨g', o', none⟩ : Addr).add j = ⟨g', o' + j, none⟩ by simp [Addr.add], ← Option.some.inj hj]
        exact z4) (fun u hu => by
        obtain ⟨y, _, rfl⟩ := List.mem_map.1 hu
        rfl) (by unfold maxLen; omega) (by omega) hbase
      exact ⟨v', w', hr, a2, a3⟩
  obtain ⟨v', w', hr, h2', h3'⟩ := main
  unfold Oper.wp execOp
  simp only [ho, resolve, invoke, builtin, Sem.run_bind, Sem.run_pure, Result.andThen_ok, List.map_toArray, List.map_cons, List.map_nil, hs, hx, hr]
  exact hK _ _ (h v' w' h2' h3')
/-- How many numbers lists have together. -/
def totI (ls : List (List Int)) : Nat := ls.flatten.length
theorem totI_take (ls : List (List Int)) {k : Nat} (h : k < ls.length) : totI (ls.take (k + 1)) = totI (ls.take k) + ls[k].length := by
  rw [List.take_succ_eq_append_getElem h]
  simp only [totI, List.flatten_append, List.flatten_cons, List.flatten_nil, List.append_nil, List.length_append]
theorem totI_le (ls : List (List Int)) (k : Nat) : totI (ls.take k) ≤ totI ls := by
  have h := congrArg totI (List.take_append_drop k ls)
  simp only [totI, List.flatten_append, List.length_append] at h ⊢
  omega
theorem flatI_take (ls : List (List Int)) {k : Nat} (h : k < ls.length) : (ls.take (k + 1)).flatten = (ls.take k).flatten ++ ls[k] := by
  rw [List.take_succ_eq_append_getElem h]
  simp only [List.flatten_append, List.flatten_cons, List.flatten_nil, List.append_nil]
theorem zq_append (a b : List Int) : zq (a ++ b) = zq a ++ zq b := by simp [zq]
set_option maxHeartbeats 4000000 in
theorem concati_any {Q : Nat → Prop} (g c : Nat) (vs : Nat → Value) (ls : List (List Int)) (w : World) (hc : ls.length ≤ c) (hcm : c ≤ 9223372036854775807) (hcell : ∀ i, i < ls.length → w.cell? ⟨g, i, none⟩ = some (vs i)) (hb : ∀ i (h : i < ls.length), Nl Q w (vs i) ls[i]) (ht : totI ls ≤ 1000000000) :
    Calls Tryd.prog 52 #[.slice (some ⟨g, 0, none⟩) ls.length c] w fun e w' => ∃ v', e = .returned v' ∧ w'.ownsRow w.heap.size 3 1 v' (totI ls) (zq ls.flatten) ∧ Below w.heap.size w w' := by
  have HC := hide hcell
  have HB := hide hb
  clear hcell hb
  go_enter Tryd.func52, Tryd.ntmps52
  go_wp2_with fail
  go_loopw [3, 11] (fun s i wr => wr = w ∧ ∃ k : Nat, k ≤ ls.length ∧ i = .int .i64 k ∧ s = .int .i64 (totI (ls.take k))) (fun _ i _ => ls.length - (intOf i).toNat)
  case atStart => exact ⟨rfl, 0, Nat.zero_le _, rfl, rfl⟩
  case round =>
    obtain ⟨hw, k, hk, rfl, rfl⟩ := hrel
    obtain rfl := hw.symm
    have hle := totI_le ls k
    by_cases hlt : k < ls.length
    · have hcl := HC.out k hlt
      obtain ⟨ao, cc, hv, h1, h2⟩ := (HB.out k hlt).at
      have e1 : (k : Int) < (ls.length : Int) := by omega
      rw [hv] at hcl
      have hle1 := totI_le ls (k + 1)
      rw [totI_take ls hlt] at hle1
      have HT := hide (totI_take ls hlt)
      have hn : ¬ ((totI (ls.take k) : Int) + (ls[k].length : Int) < 0) := by omega
      clear hv
      go_wp2_with fail
      refine ⟨⟨trivial, k + 1, by omega, by go_num, ?_⟩, by simp [intOf]; omega⟩
      rw [HT.out]
      go_num
    · have e1 : ¬ (k : Int) < (ls.length : Int) := by omega
      obtain rfl : k = ls.length := by omega
      have e0 : totI (ls.take ls.length) = totI ls := by rw [List.take_length]
      rw [e0] at *
      clear e0
      go_wp2_with fail
      refine (growi_any (totI ls) w ht).mono ?_
      rintro e w1 ⟨v1, rfl, ho1, hb1⟩
      have HO := hide ho1
      have HB1 := hide hb1
      clear ho1 hb1
      go_wp2_with fail
      go_loopw [6, 27] (fun v i w2 => ∃ k : Nat, k ≤ ls.length ∧ i = .int .i64 k ∧ w2.ownsRow w.heap.size 3 1 v (totI (ls.take k)) (zq (ls.take k).flatten) ∧ Below w.heap.size w w2) (fun _ i _ => ls.length - (intOf i).toNat)
      case atStart => exact ⟨0, Nat.zero_le _, rfl, HO.out, HB1.out⟩
      case round =>
        obtain ⟨k, hk2, rfl, ho2, hb2⟩ := hrel
        have hle2 := totI_le ls (k + 1)
        by_cases hlt : k < ls.length
        · have hcl := HC.out k hlt
          have hcl2 : wr.cell? ⟨g, k, none⟩ = some (vs k) := (hb2.cell (p := ⟨g, k, none⟩) (World.block_lt_of_cell? w _ hcl)).trans hcl
          have hbs2 := (HB.out k hlt).later hb2
          have e2 : (k : Int) < (ls.length : Int) := by omega
          rw [totI_take ls hlt] at hle2
          have HT := hide (totI_take ls hlt)
          have HF := hide (flatI_take ls hlt)
          have hsz := hb2.size
          clear hcl
          have e3 : ∃ ao cc, vs k = .slice ao ls[k].length cc := by obtain ⟨ao, cc, hv, _⟩ := hbs2.at; exact ⟨ao, cc, hv⟩
          obtain ⟨ao, cc, hv⟩ := e3
          rw [hv] at hcl2 hbs2
          have HBS := hide hbs2
          have HO2 := hide ho2
          obtain ⟨a6, c6, rfl⟩ := own_len ho2
          clear hv hbs2 ho2
          go_wp2_with (at_builtin; refine appendNl rfl _ _ rfl w.heap.size _ _ _ rfl HO2.out _ ls[k] rfl HBS.out ?k1 ?k2 ?_)
          case k1 => omega
          case k2 => exact hsz
          intro v3 w3 ho3 hb3
          have HO3 := hide ho3
          have hbl := hb2.grown hb3 hb2.size (fun k e => (HO2.out.lt k e).1)
          have HBL := hide hbl
          clear ho3 hb3 hbl
          go_wp2_with fail
          go_roundw
          case rel =>
            refine ⟨k + 1, by omega, by go_num, ?_, HBL.out⟩
            have := HO3.out
            rw [HT.out, HF.out, zq_append]
            exact this
          case measure => simp [intOf]; omega
        · have e2 : ¬ (k : Int) < (ls.length : Int) := by omega
          obtain rfl : k = ls.length := by omega
          rw [List.take_length] at ho2
          go_wp2_with fail
          go_ret
          exact ⟨_, rfl, ho2, hb2⟩
end Go.Proofs.YtklamaibinjcmaaDoor
