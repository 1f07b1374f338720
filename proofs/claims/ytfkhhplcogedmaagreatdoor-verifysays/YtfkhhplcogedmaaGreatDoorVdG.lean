/-
  Verify: the law's set and row, of any length, with what stands behind them.
-/
import Derived.Test.YtfkhhplcogedmaaGreatDoorVdF
import Derived.Deep.DeepAppendWide
namespace Go.Proofs.YtfkhhplcogedmaaGreatDoor
open Go.RowKit
set_option maxRecDepth 100000
theorem appendNlW {Q' : Nat → Prop} {w : World} {ops : Array Oper} {rest : List Oper} {o : Oper} {a : Act} {Q : Exit → Act → World → Prop} (hgd : o.guard = none) (s x : Operand)
    (ho : o.op = .call { callee := .builtin .append, args := #[s, x], argTypes := #[36, 36] })
    (base : Nat) (v : Value) (n : Nat) (xs : List Value) (hs : a.eval s = v) (hown : w.ownsRow base 3 1 v n xs) (vx : Value) (l : List Int) (hx : a.eval x = vx) (hl : Nl Q' w vx l) (hb : n + l.length ≤ 20000000000000) (hbase : base ≤ w.heap.size)
    (h : ∀ v' w', w'.ownsRow base 3 1 v' (n + l.length) (xs ++ zq l) → w.grownBy w' v.ownBlock → wpList Tryz.prog ops Q rest (a.put o.dst v') w') :
    wpList Tryz.prog ops Q (o :: rest) a w := by
  refine wpList_plain hgd fun K hK => ?_
  obtain ⟨i0, hi, hz0, hz1, hz2⟩ := info_parts infoI2
  have hn := @Nl.nth
  obtain ⟨ao, c, rfl, h1, h2⟩ := hl.at
  have main : ∃ v' w', (Builtin.append_ #[36, 36] o.type #[v, .slice ao l.length c]).run Tryz.prog w = .ok v' w' ∧ w'.ownsRow base 3 1 v' (n + l.length) (xs ++ zq l) ∧ w.grownBy w' v.ownBlock := by
    cases ao with
    | none =>
      obtain rfl : l = [] := by
        cases l with
        | nil => rfl
        | cons y t =>
          obtain ⟨g, o, e, -⟩ := hl.nth (k := 0) (by simp)
          cases e
      refine ⟨v, w, ?_, by simpa [zq] using hown, World.grownBy.refl _ _⟩
      rcases hown.2 with ⟨rfl, rfl⟩ | ⟨g, cap, cur, rfl, _, _, hnc, _⟩
      · simp [Builtin.append_, run_underlying Tryz.underlying36, typeInfo, hi, Builtin.lenOf, Builtin.firstCells]
      · simp [Builtin.append_, run_underlying Tryz.underlying36, typeInfo, hi, Builtin.lenOf, Builtin.firstCells, hnc, storeCells]
    | some ad =>
      obtain ⟨v', w', hr, a2, a3, -⟩ := run_append_own_wide (P := Tryz.prog) w base 36 o.type 3 i0 (.int .i64 0) 1 8 Tryz.underlying36 hi hz0 hz1 hz2 rfl (by decide) v n xs hown ad l.length c (zq l) (by rw [zq_len]; omega) (fun j u hj => by
        have hj2 : j < l.length := by
          have := (List.getElem?_eq_some_iff.1 hj).1
          rwa [zq_len] at this
        obtain ⟨g', o', e3, -, z4, -⟩ := hl.nth hj2
        obtain rfl := Option.some.inj e3
        have hj3 : (zq l)[j]? = some (.int .i64 l[j]) := by simp [zq, hj2]
        rw [hj3] at hj
        rw [show (⟨g', o', none⟩ : Addr).add j = ⟨g', o' + j, none⟩ by simp [Addr.add], ← Option.some.inj hj]
        exact z4) (fun u hu => by
        obtain ⟨y, _, rfl⟩ := List.mem_map.1 hu
        rfl) (by unfold maxLen; omega) (by omega) hbase
      exact ⟨v', w', hr, a2, a3⟩
  obtain ⟨v', w', hr, h2', h3'⟩ := main
  unfold Oper.wp execOp
  simp only [ho, resolve, invoke, builtin, Sem.run_bind, Sem.run_pure, Result.andThen_ok, List.map_toArray, List.map_cons, List.map_nil, hs, hx, hr]
  exact hK _ _ (h v' w' h2' h3')
theorem appendIlW {Q' : Nat → Prop} {w : World} {ops : Array Oper} {rest : List Oper} {o : Oper} {a : Act} {Q : Exit → Act → World → Prop} (hgd : o.guard = none) (s x : Operand)
    (ho : o.op = .call { callee := .builtin .append, args := #[s, x], argTypes := #[33, 33] })
    (base : Nat) (v : Value) (n : Nat) (xs : List Value) (hs : a.eval s = v) (hown : w.ownsRow base 28 2 v n xs) (vx : Value) (l : List Ins) (hx : a.eval x = vx) (hl : Il Q' w vx l) (hb : n + l.length ≤ 10000000000000) (hbase : base ≤ w.heap.size)
    (h : ∀ v' w', w'.ownsRow base 28 2 v' (n + l.length) (xs ++ fl inC l) → w.grownBy w' v.ownBlock → wpList Tryz.prog ops Q rest (a.put o.dst v') w') :
    wpList Tryz.prog ops Q (o :: rest) a w := by
  refine wpList_plain hgd fun K hK => ?_
  obtain ⟨i0, hi, hz0, hz1, hz2⟩ := info_parts infoIns
  obtain ⟨ao, c, rfl, h1, h2, h3⟩ := hl
  have main : ∃ v' w', (Builtin.append_ #[33, 33] o.type #[v, .slice ao l.length c]).run Tryz.prog w = .ok v' w' ∧ w'.ownsRow base 28 2 v' (n + l.length) (xs ++ fl inC l) ∧ w.grownBy w' v.ownBlock := by
    cases ao with
    | none =>
      obtain rfl : l = [] := by
        cases l with
        | nil => rfl
        | cons y t =>
          obtain ⟨g, o, e, -⟩ := h3 (by simp)
          cases e
      refine ⟨v, w, ?_, by simpa [fl] using hown, World.grownBy.refl _ _⟩
      rcases hown.2 with ⟨rfl, rfl⟩ | ⟨g, cap, cur, rfl, _, _, hnc, _⟩
      · simp [Builtin.append_, run_underlying Tryz.underlying33, typeInfo, hi, Builtin.lenOf, Builtin.firstCells]
      · simp [Builtin.append_, run_underlying Tryz.underlying33, typeInfo, hi, Builtin.lenOf, Builtin.firstCells, hnc, storeCells]
    | some ad =>
      obtain ⟨v', w', hr, a2, a3, -⟩ := run_append_own_wide (P := Tryz.prog) w base 33 o.type 28 i0 (.agg #[.int .i64 0, .int .i64 0]) 2 16 Tryz.underlying33 hi hz0 hz1 hz2 rfl (by decide) v n xs hown ad l.length c (fl inC l) (by rw [fl_len inC_len]) (fun j u hj => by
        have hj2 : j < l.length * 2 := by
          have := (List.getElem?_eq_some_iff.1 hj).1
          rwa [fl_len inC_len] at this
        obtain ⟨g', o', e3, -, z4⟩ := h3 (by omega)
        obtain rfl := Option.some.inj e3
        obtain ⟨-, -, d0, d1⟩ := z4 (j / 2) (by omega)
        have hj3 := fl_at inC_len l (j / 2) (by omega) (j % 2) (by omega)
        rw [show j / 2 * 2 + j % 2 = j by omega, hj] at hj3
        rw [show (⟨g', o', none⟩ : Addr).add j = ⟨g', o' + j, none⟩ by simp [Addr.add]]
        rcases Nat.mod_two_eq_zero_or_one j with e | e
        · rw [e] at hj3
          rw [show o' + j = o' + j / 2 * 2 by omega, d0, hj3]
          rfl
        · rw [e] at hj3
          rw [show o' + j = o' + j / 2 * 2 + 1 by omega, d1, hj3]
          rfl) (inC_one l) (by unfold maxLen; omega) (by omega) hbase
      exact ⟨v', w', hr, a2, a3⟩
  obtain ⟨v', w', hr, h2', h3'⟩ := main
  unfold Oper.wp execOp
  simp only [ho, resolve, invoke, builtin, Sem.run_bind, Sem.run_pure, Result.andThen_ok, List.map_toArray, List.map_cons, List.map_nil, hs, hx, hr]
  exact hK _ _ (h v' w' h2' h3')
/-- Numbers, with two behind them. -/
def Nx (Q : Nat → Prop) (W : World) (v : Value) (l : List Int) : Prop := ∃ a c, v = .slice a l.length c ∧ l.length + 2 ≤ c ∧ Nl Q W (.slice a (l.length + 2) c) (l ++ [77, 77])
/-- Instructions, with eight behind them. -/
def Ix (Q : Nat → Prop) (W : World) (v : Value) (l : List Ins) : Prop := ∃ a c, v = .slice a l.length c ∧ l.length + 8 ≤ c ∧ Il Q W (.slice a (l.length + 8) c) (i77 l 8)
theorem i77_len (l : List Ins) (k : Nat) : (i77 l k).length = l.length + k := by
  unfold i77
  simp
section
variable {Q Q' S : Nat → Prop} {W W' : World} {v : Value}
theorem Nx.nl {l : List Int} (h : Nx Q W v l) : Nl Q W v l := by
  obtain ⟨a, c, rfl, h1, ao, c', e, h2, h3, h4⟩ := h
  injection e with e1 e2 e3
  subst e1 e3
  refine ⟨_, _, rfl, by omega, h3, fun h0 => ?_⟩
  obtain ⟨g, o, k1, k2, k3⟩ := h4 (by rw [List.length_append]; omega)
  refine ⟨g, o, k1, k2, fun i hi => ?_⟩
  have := k3 i (by rw [List.length_append]; omega)
  rwa [List.getElem_append_left hi] at this
theorem Ix.il {l : List Ins} (h : Ix Q W v l) : Il Q W v l := by
  obtain ⟨a, c, rfl, h1, ao, c', e, h2, h3, h4⟩ := h
  injection e with e1 e2 e3
  subst e1 e3
  refine ⟨_, _, rfl, by omega, h3, fun h0 => ?_⟩
  obtain ⟨g, o, k1, k2, k3⟩ := h4 (by rw [i77_len]; omega)
  refine ⟨g, o, k1, k2, fun i hi => ?_⟩
  have := k3 i (by rw [i77_len]; omega)
  have e : (i77 l 8)[i]'(by rw [i77_len]; omega) = l[i] := by unfold i77; rw [List.getElem_append_left hi]
  rwa [e] at this
theorem Nx.mono {l : List Int} (h : Nx Q W v l) (hq : ∀ j, Q j → Q' j) : Nx Q' W v l := by
  obtain ⟨a, c, h1, h2, h3⟩ := h
  exact ⟨a, c, h1, h2, h3.mono hq⟩
theorem Ix.mono {l : List Ins} (h : Ix Q W v l) (hq : ∀ j, Q j → Q' j) : Ix Q' W v l := by
  obtain ⟨a, c, h1, h2, h3⟩ := h
  exact ⟨a, c, h1, h2, h3.mono hq⟩
theorem Nx.li {N : Nat} {l : List Int} (h : Nx (Li N W) W v l) (hm : Mv W W' S) (hs : ∀ j, Li N W j → ¬ S j) : Nx (Li N W') W' v l := by
  obtain ⟨a, c, h1, h2, h3⟩ := h
  exact ⟨a, c, h1, h2, h3.li hm hs⟩
theorem Ix.li {N : Nat} {l : List Ins} (h : Ix (Li N W) W v l) (hm : Mv W W' S) (hs : ∀ j, Li N W j → ¬ S j) : Ix (Li N W') W' v l := by
  obtain ⟨a, c, h1, h2, h3⟩ := h
  exact ⟨a, c, h1, h2, h3.li hm hs⟩
theorem Ix.mv {l : List Ins} (h : Ix Q W v l) (hm : Mv W W' S) (hs : ∀ j, Q j → ¬ S j) : Ix Q W' v l := by
  obtain ⟨a, c, h1, h2, h3⟩ := h
  exact ⟨a, c, h1, h2, h3.mv hm hs⟩
theorem Ix.later {l : List Ins} (h : Ix Q W v l) (hb : Below W.heap.size W W') : Ix Q W' v l := h.mv (Mv.of_below hb (fun _ => False)) (fun _ _ e => e)
theorem Nx.oc {l : List Int} (h : Nx Q W v l) : v.oneCell' = true := h.nl.oc
theorem Ix.oc {l : List Ins} (h : Ix Q W v l) : v.oneCell' = true := h.il.oc
end
theorem own_nx {w : World} {B g n c : Nat} {l : List Int} (h : w.ownsRow B 3 1 (.slice (some ⟨g, 0, none⟩) (n + 2) c) (n + 2) (zq (l ++ [77, 77]))) (hn : n = l.length) (h6 : ∀ i ∈ l, I6 i) : Nx (fun j => j = g) w (.slice (some ⟨g, 0, none⟩) n c) l := by
  subst hn
  obtain ⟨h1, h2⟩ := own_cap h
  have h' : w.ownsRow B 3 1 (.slice (some ⟨g, 0, none⟩) (l.length + 2) c) (l.length + 2) (zq ((l ++ [77, 77]) ++ [])) := by rw [List.append_nil]; exact h
  exact ⟨_, c, rfl, h1, own_nl h' (by rw [List.length_append]; rfl) (fun i hi => by
    rw [List.mem_append] at hi
    rcases hi with hi | hi
    · exact h6 i hi
    · simp only [List.mem_cons, List.not_mem_nil, or_false, or_self] at hi
      subst hi
      exact (⟨by decide, by decide⟩ : I6 77))⟩
theorem own_ix {w : World} {B g n m c : Nat} {l : List Ins} (h : w.ownsRow B 28 2 (.slice (some ⟨g, 0, none⟩) m c) m (fl inC (i77 l 8))) (hn : n = l.length) (h6 : ∀ i ∈ l, I6 i.op ∧ I6 i.a) : Ix (fun j => j = g) w (.slice (some ⟨g, 0, none⟩) n c) l := by
  subst hn
  obtain ⟨h1, h2⟩ := own_cap h
  have hm : m = l.length + 8 := by have := h.1; rw [fl_len inC_len, i77_len] at this; omega
  subst hm
  have h' : w.ownsRow B 28 2 (.slice (some ⟨g, 0, none⟩) (l.length + 8) c) (l.length + 8) (fl inC (i77 l 8 ++ [])) := by rw [List.append_nil]; exact h
  exact ⟨_, c, rfl, h1, own_il h' (by rw [i77_len]) (fun i hi => by
    unfold i77 at hi
    rw [List.mem_append] at hi
    rcases hi with hi | hi
    · exact h6 i hi
    · rw [(List.mem_replicate.1 hi).2]
      exact ⟨(⟨by decide, by decide⟩ : I6 77), (⟨by decide, by decide⟩ : I6 0)⟩)⟩
set_option maxHeartbeats 4000000 in
theorem lsetW_any {Q : Nat → Prop} {w : World} {ao : Option Addr} {n c : Nat} (l : List Int) (h : Nl Q w (.slice ao n c) l) (hn : n = l.length) (hz : n ≤ 19000000000000) : Calls Tryz.prog 13 #[.slice ao n c] w fun e w' => ∃ g c', e = .returned (.slice (some ⟨g, 0, none⟩) n c') ∧ Lk 3 w.heap.size w' g ∧ Nx (fun j => j = g) w' (.slice (some ⟨g, 0, none⟩) n c') l ∧ n ≤ c' ∧ c' ≤ 9223372036854775807 ∧ Below w.heap.size w w' := by
  have H6 := hide h.six
  have HN := hide hn
  have H0 := hide h
  obtain ⟨ao', c', e, hc1, hc2⟩ := h.at
  injection e with e1 e2 e3
  subst e1 e3
  have hc1 : n ≤ c := by omega
  clear h hn e2
  go_enter Tryz.func13, Tryz.ntmps13
  go_wp2_with (at_builtin; refine appendNlW rfl _ _ rfl w.heap.size _ 0 [] rfl (World.ownsRow_nil _ _ _ _) _ l rfl H0.out ?k1 (Nat.le_refl _) ?_)
  case k1 => have := HN.out; omega
  intro v1 w1 o1 g1
  replace o1 : w1.ownsRow w.heap.size 3 1 v1 n (zq l) := by rw [HN.out]; simpa using o1
  have B1 : Hid (Below w.heap.size w w1) := Below.grown (Below.refl _ _) g1 (Nat.le_refl _) (fun k e => by cases e)
  have O1 := hide o1
  obtain ⟨a1, c1, rfl⟩ := own_len o1
  clear o1 g1 H0
  go_upto_region 3 with fail
  have HL : Hid (Nl (fun _ => True) (w1.alloc (.cells #[.int .i64 77, .int .i64 77] 3)) (.slice (some ⟨w1.heap.size, 0, none⟩) 2 2) [77, 77]) := by
    have k : ∀ j, (w1.alloc (.cells #[.int .i64 77, .int .i64 77] 3)).cell? ⟨w1.heap.size, j, none⟩ = (#[Value.int .i64 77, .int .i64 77] : Array Value)[j]? := fun j => cell_of_row _ _ _ _ 3 (0, 0) (heap_alloc_new w1 _)
    refine ⟨_, 2, rfl, Nat.le_refl 2, by decide, fun _ => ⟨_, 0, rfl, trivial, fun i hi => ?_⟩⟩
    match i, hi with
    | 0, _ => exact ⟨(⟨by decide, by decide⟩ : I6 77), k 0⟩
    | 1, _ => exact ⟨(⟨by decide, by decide⟩ : I6 77), k 1⟩
  have BA := hide (below_on B1.out (below_alloc w1 (.cells #[.int .i64 77, .int .i64 77] 3)))
  go_wp2_with (at_builtin; refine appendNlW rfl _ _ rfl w.heap.size _ n (zq l) rfl ?m0 _ [77, 77] rfl HL.out ?m1 ?m2 ?_)
  case m0 => exact O1.out.alloc _
  case m1 => show n + 2 ≤ _; omega
  case m2 => exact BA.out.size
  intro v2 w2 o2 g2
  have e2 : zq l ++ zq [77, 77] = zq (l ++ [77, 77]) := by simp [zq]
  replace o2 : w2.ownsRow w.heap.size 3 1 v2 (n + 2) (zq (l ++ [77, 77])) := by rw [← e2]; exact o2
  have B2 : Hid (Below w.heap.size w w2) := BA.out.grown g2 BA.out.size (fun k e => (O1.out.lt k e).1)
  have O2 := hide o2
  obtain ⟨g, c2, rfl⟩ : ∃ g c2, v2 = .slice (some ⟨g, 0, none⟩) (n + 2) c2 := by
    rcases o2.2 with ⟨-, e⟩ | ⟨g, cap, cur, rfl, -⟩
    · omega
    · exact ⟨g, cap, rfl⟩
  obtain ⟨q1, q2⟩ := own_cap o2
  have HK : Hid (Lk 3 w.heap.size w2 g) := ⟨(o2.lt g rfl).1, own_blk2 o2 rfl⟩
  clear o2 g2 O1 B1 BA HL e2
  have t1 : (n : Int) ≤ c2 := by omega
  go_wp2_with fail
  go_ret
  exact ⟨g, _, rfl, HK.out, own_nx O2.out HN.out H6.out, by omega, q2, B2.out⟩
set_option maxHeartbeats 4000000 in
theorem lrowW_any {Q : Nat → Prop} {w : World} {ao : Option Addr} {n c : Nat} (l : List Ins) (h : Il Q w (.slice ao n c) l) (hn : n = l.length) (hz : n ≤ 9000000000000) : Calls Tryz.prog 14 #[.slice ao n c] w fun e w' => ∃ g c', e = .returned (.slice (some ⟨g, 0, none⟩) n c') ∧ Lk 28 w.heap.size w' g ∧ Ix (fun j => j = g) w' (.slice (some ⟨g, 0, none⟩) n c') l ∧ n ≤ c' ∧ c' ≤ 9223372036854775807 ∧ Below w.heap.size w w' := by
  have H6 := hide h.six
  have HN := hide hn
  have H0 := hide h
  obtain ⟨hc1, hc2⟩ : n ≤ c ∧ c ≤ 9223372036854775807 := by
    obtain ⟨ao', c', e, hc1, hc2, -⟩ := h
    injection e with e1 e2 e3
    unfold maxLen at hc2
    omega
  clear h hn
  go_enter Tryz.func14, Tryz.ntmps14
  go_wp2_with (at_builtin; refine appendIlW rfl _ _ rfl w.heap.size _ 0 [] rfl (World.ownsRow_nil _ _ _ _) _ l rfl H0.out ?k1 (Nat.le_refl _) ?_)
  case k1 => have := HN.out; omega
  intro v1 w1 o1 g1
  have B1 : Hid (Below w.heap.size w w1) := Below.grown (Below.refl _ _) g1 (Nat.le_refl _) (fun k e => by cases e)
  have O1 : Hid (w1.ownsRow w.heap.size 28 2 v1 (n + 0) (fl inC (i77 l 0))) := by unfold Hid i77; rw [HN.out]; simpa using o1
  clear o1 g1 H0
  go_upto_region 3 with fail
  go_wp2_with fail
  go_loopw [3, 4] (fun v3 v4 W => ∃ i : Nat, i ≤ 8 ∧ v4 = .int .i64 (i : Int) ∧ Hid (W.ownsRow w.heap.size 28 2 v3 (n + i) (fl inC (i77 l i))) ∧ Hid (Below w.heap.size w W)) (fun _ v4 _ => 8 - (intOf v4).toNat)
  case atStart => exact ⟨0, by omega, rfl, O1, B1⟩
  case round =>
    obtain ⟨i, hi, rfl, HO, HB⟩ := hrel
    obtain ⟨m, hm⟩ : ∃ m, m = n + i := ⟨_, rfl⟩
    have HM := hide hm
    rw [← hm] at HO
    obtain ⟨a3, c3, rfl⟩ := own_len HO.out
    obtain ⟨q1, q2⟩ := own_cap HO.out
    by_cases hlt : i < 8
    · have t1 : (i : Int) < 8 := by omega
      have HL : Hid (Il (fun _ => True) (wr.alloc (.cells #[.int .i64 77, .int .i64 0] 28)) (.slice (some ⟨wr.heap.size, 0, none⟩) 1 1) [⟨77, 0⟩]) := by
        have k : ∀ j, (wr.alloc (.cells #[.int .i64 77, .int .i64 0] 28)).cell? ⟨wr.heap.size, j, none⟩ = (#[Value.int .i64 77, .int .i64 0] : Array Value)[j]? := fun j => cell_of_row _ _ _ _ 28 (0, 0) (heap_alloc_new wr _)
        refine ⟨_, 1, rfl, Nat.le_refl 1, by decide, fun _ => ⟨_, 0, rfl, trivial, fun i hi => ?_⟩⟩
        match i, hi with
        | 0, _ => exact ⟨(⟨by decide, by decide⟩ : I6 77), (⟨by decide, by decide⟩ : I6 0), k 0, k 1⟩
      have BA := hide (below_on HB.out (below_alloc wr (.cells #[.int .i64 77, .int .i64 0] 28)))
      clear hm
      go_wp2_with (at_builtin; refine appendIlW rfl _ _ rfl w.heap.size _ m (fl inC (i77 l i)) rfl ?m0 _ [⟨77, 0⟩] rfl HL.out ?m1 ?m2 ?_)
      case m0 => exact HO.out.alloc _
      case m1 => have := HM.out; show m + 1 ≤ _; omega
      case m2 => exact BA.out.size
      intro v2 w2 o2 g2
      have B2 : Hid (Below w.heap.size w w2) := BA.out.grown g2 BA.out.size (fun k e => (HO.out.lt k e).1)
      have O2 : Hid (w2.ownsRow w.heap.size 28 2 v2 (n + (i + 1)) (fl inC (i77 l (i + 1)))) := by
        unfold Hid
        rw [← i77_on, show n + (i + 1) = m + 1 by have := HM.out; omega]
        exact o2
      clear o2 g2 HO HB BA HL
      go_wp2_with fail
      go_roundw
      case rel => exact ⟨i + 1, by omega, by go_num, O2, B2⟩
      case measure => show 8 - (intOf (.int .i64 ((i : Int) + 1))).toNat < 8 - (intOf (.int .i64 (i : Int))).toNat; simp only [intOf]; omega
    · have e8 : i = 8 := by omega
      subst e8
      have HK : Hid (∃ g, a3 = some ⟨g, 0, none⟩) := by
        rcases HO.out.2 with ⟨e, e'⟩ | ⟨g, cap, cur, e, -⟩
        · have := HM.out
          have : m = 0 := by injection e
          omega
        · injection e with e1
          exact ⟨g, e1⟩
      obtain ⟨g, rfl⟩ := HK.out
      have t1 : ((8 : Nat) : Int) = 8 := rfl
      have t2 : (n : Int) ≤ c3 := by have := HM.out; omega
      have HK2 : Hid (Lk 28 w.heap.size wr g) := ⟨(HO.out.lt g rfl).1, own_blk2 HO.out rfl⟩
      clear hm HK
      rw [t1]
      go_wp2_with fail
      go_ret
      exact ⟨g, _, rfl, HK2.out, own_ix HO.out HN.out H6.out, by omega, q2, HB.out⟩
end Go.Proofs.YtfkhhplcogedmaaGreatDoor
