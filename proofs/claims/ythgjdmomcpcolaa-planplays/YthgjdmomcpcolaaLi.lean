/-
  Plan's law: listed, still, pick.
-/
import Derived.Test.YthgjdmomcpcolaaLe
namespace Go.Proofs.Ythgjdmomcpcolaa
open Go.RowKit
set_option maxRecDepth 100000
theorem run_append_none {P : Program} {w : World} (base : Nat) (t ty e : TypeId) (i : TypeInfo) (size : Nat) (ht : P.underlying t = some (.slice e)) (hi : P.info? e = some i)
    (v : Value) (n : Nat) (xs : List Value) (hown : w.ownsRow base e size v n xs) (c : Nat) :
    (Builtin.append_ #[t, t] ty #[v, .slice none 0 c]).run P w = .ok v w := by
  rcases hown.2 with ⟨rfl, rfl⟩ | ⟨g, cap, cur, rfl, _, _, hnc, _⟩
  · simp [Builtin.append_, run_underlying ht, sizeOf, typeInfo, hi, Builtin.lenOf, Builtin.firstCells]
  · simp [Builtin.append_, run_underlying ht, sizeOf, typeInfo, hi, Builtin.lenOf, Builtin.firstCells, hnc, storeCells]
/-- 'append(v, l...)' of numbers, v the call's own. -/
theorem run_append_nums {w : World} (base : Nat) (ty : TypeId) (v : Value) (n : Nat) (xs : List Value) (hown : w.ownsRow base 3 1 v n xs) (vx : Value) (l : List Int) (hl : Rl w vx l) (hb : (n + l.length) * 8 ≤ 140737488355328) (hbase : base ≤ w.heap.size) :
    ∃ v' w', (Builtin.append_ #[23, 23] ty #[v, vx]).run Try.prog w = .ok v' w' ∧ w'.ownsRow base 3 1 v' (n + l.length) (xs ++ zc l) ∧ w.grownBy w' v.ownBlock ∧ (v'.ownBlock = v.ownBlock ∨ v'.ownBlock = some w.heap.size) := by
  obtain ⟨i0, hi, hz0, hz1, hz2⟩ := info_parts info3
  obtain ⟨ao, c, rfl, h1, h2, h3⟩ := hl
  cases ao with
  | none =>
    obtain rfl : l = [] := by
      cases l with
      | nil => rfl
      | cons x t =>
        obtain ⟨g, o, e, -⟩ := h3 (by simp)
        cases e
    refine ⟨v, w, run_append_none base 23 ty 3 i0 1 Try.underlying23 hi v n xs hown c, ?_, World.grownBy.refl _ _, .inl rfl⟩
    simpa [zc] using hown
  | some ad =>
    obtain ⟨v', w', hr, a2, a3, -, a5⟩ := run_append_own_at (P := Try.prog) w base 23 ty 3 i0 (.int .i64 0) 1 8 Try.underlying23 hi hz0 hz1 hz2 rfl (by decide) v n xs hown ad l.length c (zc l) (by rw [zc_len]; omega) (fun j u hj => by
      have hj2 : j < l.length := by
        have := (List.getElem?_eq_some_iff.1 hj).1
        rwa [zc_len] at this
      rw [zc_at l j hj2] at hj
      obtain ⟨g', o', e3, z4⟩ := h3 (by omega)
      obtain rfl := Option.some.inj e3
      rw [show (⟨g', o', none⟩ : Addr).add j = ⟨g', o' + j, none⟩ by simp [Addr.add], ← Option.some.inj hj]
      exact z4 j hj2) (zc_one l) (by unfold maxLen; omega) hb hbase
    exact ⟨v', w', hr, a2, a3, a5⟩
theorem wpList_append_nums {w : World} {ops : Array Oper} {rest : List Oper} {o : Oper} {a : Act} {Q : Exit → Act → World → Prop} (hgd : o.guard = none) (s x : Operand)
    (ho : o.op = .call { callee := .builtin .append, args := #[s, x], argTypes := #[23, 23] })
    (base : Nat) (v : Value) (n : Nat) (xs : List Value) (hs : a.eval s = v) (hown : w.ownsRow base 3 1 v n xs) (vx : Value) (l : List Int) (hx : a.eval x = vx) (hl : Rl w vx l) (hb : (n + l.length) * 8 ≤ 140737488355328) (hbase : base ≤ w.heap.size)
    (h : ∀ v' w', w'.ownsRow base 3 1 v' (n + l.length) (xs ++ zc l) → w.grownBy w' v.ownBlock → (v'.ownBlock = v.ownBlock ∨ v'.ownBlock = some w.heap.size) → wpList Try.prog ops Q rest (a.put o.dst v') w') :
    wpList Try.prog ops Q (o :: rest) a w := by
  refine wpList_plain hgd fun K hK => ?_
  obtain ⟨v', w', hr, h2, h3, h5⟩ := run_append_nums base o.type v n xs hown vx l hl hb hbase
  unfold Oper.wp execOp
  simp only [ho, resolve, invoke, builtin, Sem.run_bind, Sem.run_pure, Result.andThen_ok, List.map_toArray, List.map_cons, List.map_nil, hs, hx, hr]
  exact hK _ _ (h v' w' h2 h3 h5)
/-- One number that was just laid. -/
theorem Rl.lit (w : World) (x : Int) : Rl (w.alloc (.cells #[.int .i64 x] 3)) (.slice (some ⟨w.heap.size, 0, none⟩) 1 1) [x] :=
  ⟨_, 1, rfl, by simp, by omega, fun _ => ⟨w.heap.size, 0, rfl, fun i hi => by
    have : i = 0 := by simpa using hi
    subst this
    rw [cell_of_row _ _ _ _ 3 (0, 0) (heap_alloc_new w _)]
    rfl⟩⟩
/-- Numbers that are lent, with eight behind them. -/
def Lt (w : World) (B : Nat) (v : Value) (l : List Int) : Prop := ∃ g c, v = .slice (some ⟨g, 0, none⟩) l.length c ∧ Rw w B (.slice (some ⟨g, 0, none⟩) (l ++ List.replicate 8 77).length c) (l ++ List.replicate 8 77)
theorem Lt.row {w : World} {B : Nat} {v : Value} {l : List Int} (h : Lt w B v l) : Rw w B v l := by
  obtain ⟨g, c, rfl, h2⟩ := h
  have := h2.cut (k := l.length) (by simp)
  rwa [List.take_left] at this
set_option maxHeartbeats 4000000 in
theorem listed_any {w : World} {v : Value} {l : List Int} (h : Rl w v l) (hn : l.length ≤ 1000) : Calls Try.prog 23 #[v] w fun e w' => ∃ v', e = .returned v' ∧ Lt w' w.heap.size v' l ∧ Below w.heap.size w w' := by
  have H := hide h
  have HN := hide hn
  obtain ⟨ao, c, rfl, hc1, hc2, -⟩ := h
  clear hn
  go_enter Try.func23, Try.ntmps23
  go_wp2_with (at_builtin; refine wpList_append_nums rfl _ _ rfl w.heap.size (.slice none 0 0) 0 [] rfl (World.ownsRow_nil _ _ _ _) (.slice ao l.length c) l rfl ?o1 ?o2 ?o3 ?_)
  case o1 => exact H.out
  case o2 => have := HN.out; omega
  case o3 => omega
  intro v1 w1 h1 hg1 _
  have R0 : Hid (Rw w1 w.heap.size v1 (l ++ List.replicate 0 77) ∧ Below w.heap.size w w1) := by
    refine ⟨by simpa using h1, (Below.refl _ w).grown hg1 (Nat.le_refl _) (fun k e => by simp [Value.ownBlock] at e)⟩
  clear h1 hg1
  go_wp2_with fail
  go_loopw [3, 4] (fun v3 v4 W => ∃ i : Nat, i ≤ 8 ∧ v4 = .int .i64 (i : Int) ∧ Hid (Rw W w.heap.size v3 (l ++ List.replicate i 77) ∧ Below w.heap.size w W)) (fun _ v4 _ => 8 - (intOf v4).toNat)
  case atStart => exact ⟨0, by omega, rfl, R0.out⟩
  case round =>
    obtain ⟨i, hi, rfl, HR⟩ := hrel
    clear R0
    obtain ⟨h3, h4⟩ := HR.out
    obtain ⟨a3, c3, rfl⟩ := own_len h3
    by_cases hlt : i < 8
    · have t1 : (i : Int) < 8 := by omega
      clear h3 h4
      go_wp2_with (at_builtin; refine wpList_append_nums rfl _ _ rfl w.heap.size (.slice a3 (l ++ List.replicate i 77).length c3) (l ++ List.replicate i 77).length (zc (l ++ List.replicate i 77)) rfl (own_later HR.out.1 (below_alloc wr _)) (.slice (some ⟨wr.heap.size, 0, none⟩) 1 1) [77] rfl (Rl.lit wr 77) ?p2 ?p3 ?_)
      case p2 => have := HN.out; simp; omega
      case p3 => have := HR.out.2.size; simp; omega
      intro v5 w5 h5 hg5 _
      have hlen : l ++ List.replicate (i + 1) 77 = (l ++ List.replicate i 77) ++ [77] := by rw [List.replicate_succ', List.append_assoc]
      have HR5 : Hid (Rw w5 w.heap.size v5 (l ++ List.replicate (i + 1) 77) ∧ Below w.heap.size w w5) := by
        refine ⟨?_, ?_⟩
        · rw [hlen]
          unfold Rw
          have e9 : ((l ++ List.replicate i 77) ++ [(77 : Int)]).length = l.length + i + 1 := by
            simp
            omega
          rw [e9, zc_append]
          exact h5
        · have hb := below_on HR.out.2 (below_alloc wr (.cells #[.int .i64 77] 3))
          exact hb.grown hg5 hb.size (fun k e => (HR.out.1.lt k (by rw [List.length_append, List.length_replicate]; exact e)).1)
      obtain ⟨a5, c5, rfl⟩ := own_len h5
      clear h5 hg5 hlen
      go_wp2_with fail
      go_roundw
      case rel => exact ⟨i + 1, by omega, rfl, HR5.out⟩
      case measure => simp only [intOf]; omega
    · have t1 : ¬ (i : Int) < 8 := by omega
      obtain rfl : i = 8 := by omega
      obtain ⟨g3, c3', e0, hd1, hd2⟩ := own_form h3 (by simp)
      simp only [Value.slice.injEq, true_and] at e0
      obtain ⟨rfl, rfl⟩ := e0
      have hl8 : (l ++ List.replicate 8 (77 : Int)).length = l.length + 8 := by simp
      rw [hl8] at hd1 ⊢
      have t2 : (l.length : Int) ≤ (c3 : Int) := by omega
      clear h3 h4
      go_wp2_with fail
      go_ret
      refine ⟨_, rfl, ⟨g3, c3, rfl, ?_⟩, HR.out.2⟩
      exact HR.out.1
set_option maxHeartbeats 4000000 in
theorem still_any {w : World} {B : Nat} {v u : Value} {l : List Int} (h : Lt w B v l) (hu : Rl w u l) (hn : l.length ≤ 1000) : Calls Try.prog 24 #[v, u] w fun e w' => e = .returned (.bool true) ∧ Below w.heap.size w w' := by
  obtain ⟨g, c, rfl, hr⟩ := h
  have HN := hide hn
  have hl8 : (l ++ List.replicate 8 (77 : Int)).length = l.length + 8 := by simp
  have HR := hide hr
  rw [hl8] at hr
  obtain ⟨hc1, hc2⟩ := own_cap (n := l.length + 8) (by have := hr; unfold Rw at this; rw [hl8] at this; exact this)
  have HU := hide hu
  obtain ⟨au, cu, rfl, hu1, hu2, hu3⟩ := hu
  have t1 : ¬ (c : Int) < (l.length : Int) + 8 := by omega
  have t2 : (l.length : Int) + 8 ≤ (c : Int) := by omega
  have HU3 := hide hu3
  clear hn hr hu3 hl8
  go_enter Try.func24, Try.ntmps24
  go_wp2_with fail
  go_loopw [6] (fun v6 W => ∃ i : Nat, i ≤ l.length + 8 ∧ v6 = .int .i64 (i : Int) ∧ Hid (Below w.heap.size w W)) (fun v6 _ => l.length + 8 - (intOf v6).toNat)
  case atStart => exact ⟨0, by omega, rfl, Below.refl _ _⟩
  case round =>
    obtain ⟨i, hi, rfl, HB⟩ := hrel
    by_cases hlt : i < l.length + 8
    · have t3 : (i : Int) < (l.length : Int) + 8 := by omega
      have hrW : Rw wr B (.slice (some ⟨g, 0, none⟩) (l ++ List.replicate 8 77).length c) (l ++ List.replicate 8 77) := own_later HR.out HB.out
      by_cases hil : i < l.length
      · have t4 : (i : Int) < (l.length : Int) := by omega
        have t5 : ¬ (i : Int) ≥ (l.length : Int) := by omega
        have e1 := hrW.at i (by simp; omega)
        rw [List.getElem_append_left hil] at e1
        obtain ⟨gu, ou, rfl, hcu⟩ := HU3.out (by omega)
        have e2 : wr.cell? ⟨gu, ou + i, none⟩ = some (.int .i64 l[i]) := (World.cell?_of_block (HB.out.block gu (World.block_lt_of_cell? w _ (hcu i hil)))).trans (hcu i hil)
        have f1 : decide ((i : Int) < (l.length : Int)) = true := decide_eq_true t4
        have f2 : decide ((l.length : Int) ≤ (i : Int)) = false := decide_eq_false (by omega)
        have f3 : decide (l.length ≤ i) = false := decide_eq_false (by omega)
        have f4 : decide (i < l.length) = true := decide_eq_true hil
        clear hrW hcu
        generalize l[i] = x at *
        go_wp2_with fail
        go_quiet (fail)
        go_wp2_with fail
        exact ⟨⟨i + 1, by omega, rfl, below_on HB.out (below_drawn wr _)⟩, by simp only [intOf]; omega⟩
      · have t4 : ¬ (i : Int) < (l.length : Int) := by omega
        have t5 : (i : Int) ≥ (l.length : Int) := by omega
        have e1 := hrW.at i (by simp; omega)
        rw [List.getElem_append_right (by omega)] at e1
        simp only [List.getElem_replicate] at e1
        have f1 : decide ((i : Int) < (l.length : Int)) = false := decide_eq_false t4
        have f2 : decide ((l.length : Int) ≤ (i : Int)) = true := decide_eq_true (by omega)
        have f3 : decide (l.length ≤ i) = true := decide_eq_true (by omega)
        have f4 : decide (i < l.length) = false := decide_eq_false hil
        clear hrW
        go_wp2_with fail
        go_quiet (fail)
        go_wp2_with fail
        exact ⟨⟨i + 1, by omega, rfl, below_on HB.out (below_drawn wr _)⟩, by simp only [intOf]; omega⟩
    · have t3 : ¬ (i : Int) < (l.length : Int) + 8 := by omega
      go_wp2_with fail
      go_ret
      exact ⟨rfl, HB.out⟩
/-- Which of n things a raw number speaks of. -/
def pickN (c : Int) (n : Nat) : Nat := (if c < 0 then -(c + 1) else c).toNat % n
theorem pickN_lt (c : Int) {n : Nat} (h : 0 < n) : pickN c n < n := Nat.mod_lt _ h
theorem pick_any (c : Int) (n : Nat) (w : World) (h : 0 < n) (hn : n ≤ 1000) (hc : InI c) : Calls Try.prog 21 #[.int .i64 c, .int .i64 (n : Int)] w fun e w' => e = .returned (.int .i64 (pickN c n : Int)) ∧ w' = w := by
  obtain ⟨hc1, hc2⟩ := hc
  have hn0 : (n : Int) ≠ 0 := by omega
  by_cases hlt : c < 0
  · obtain ⟨m, hm⟩ : ∃ m : Nat, -(c + 1) = (m : Int) := ⟨(-(c + 1)).toNat, by omega⟩
    have hp : pickN c n = m % n := by rw [pickN, if_pos hlt, hm, Int.toNat_natCast]
    rw [hp]
    clear hp
    go_enter Try.func21, Try.ntmps21
    go_wp2_with fail
    go_ret
    exact ⟨ret_int (Int.natCast_emod m n).symm, rfl⟩
  · obtain ⟨m, rfl⟩ : ∃ m : Nat, c = (m : Int) := ⟨c.toNat, by omega⟩
    have hp : pickN (m : Int) n = m % n := by rw [pickN, if_neg hlt, Int.toNat_natCast]
    rw [hp]
    clear hp
    go_enter Try.func21, Try.ntmps21
    go_wp2_with fail
    go_ret
    exact ⟨rfl, rfl⟩
end Go.Proofs.Ythgjdmomcpcolaa
