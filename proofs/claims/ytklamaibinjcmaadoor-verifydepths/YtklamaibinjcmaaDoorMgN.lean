import Derived.Test.YtklamaibinjcmaaDoorMgM
import Derived.Deep.DeepAppendWide
import Derived.Test.YtklamaibinjcmaaDoorVnF
import Derived.BigQuiet
import Derived.Test.YtklamaibinjcmaaDoorVrA
/-
  Verify: the law's set and row, of any length, with what stands behind them.
-/
namespace Go.Proofs.YtklamaibinjcmaaDoor
open Go.RowKit
set_option maxRecDepth 100000
theorem appendNlW {Q' : Nat → Prop} {w : World} {ops : Array Oper} {rest : List Oper} {o : Oper} {a : Act} {Q : Exit → Act → World → Prop} (hgd : o.guard = none) (s x : Operand)
    (ho : o.op = .call { callee := .builtin .append, args := #[s, x], argTypes := #[32, 32] })
    (base : Nat) (v : Value) (n : Nat) (xs : List Value) (hs : a.eval s = v) (hown : w.ownsRow base 3 1 v n xs) (vx : Value) (l : List Int) (hx : a.eval x = vx) (hl : Nl Q' w vx l) (hb : n + l.length ≤ 20000000000000) (hbase : base ≤ w.heap.size)
    (h : ∀ v' w', w'.ownsRow base 3 1 v' (n + l.length) (xs ++ zq l) → w.grownBy w' v.ownBlock → wpList Tryd.prog ops Q rest (a.put o.dst v') w') :
    wpList Tryd.prog ops Q (o :: rest) a w := by
  refine wpList_plain hgd fun K hK => ?_
  obtain ⟨i0, hi, hz0, hz1, hz2⟩ := info_parts infoI2
  have hn := @Nl.nth
  obtain ⟨ao, c, rfl, h1, h2⟩ := hl.at
  have main : ∃ v' w', (Builtin.append_ #[32, 32] o.type #[v, .slice ao l.length c]).run Tryd.prog w = .ok v' w' ∧ w'.ownsRow base 3 1 v' (n + l.length) (xs ++ zq l) ∧ w.grownBy w' v.ownBlock := by
    cases ao with
    | none =>
      obtain rfl : l = [] := by
        cases l with
        | nil => rfl
        | cons y t =>
          obtain ⟨g, o, e, -⟩ := hl.nth (k := 0) (by simp)
          cases e
      refine ⟨v, w, ?_, by simpa [zq] using hown, World.grownBy.refl _ _⟩
      rcases hown.2 with ⟨rfl, rfl⟩ | ⟨g, cap, cur, rfl, _, _, hnc, _⟩
      · simp [Builtin.append_, run_underlying Tryd.underlying32, typeInfo, hi, Builtin.lenOf, Builtin.firstCells]
      · simp [Builtin.append_, run_underlying Tryd.underlying32, typeInfo, hi, Builtin.lenOf, Builtin.firstCells, hnc, storeCells]
    | some ad =>
      obtain ⟨v', w', hr, a2, a3, -⟩ := run_append_own_wide (P := Tryd.prog) w base 32 o.type 3 i0 (.int .i64 0) 1 8 Tryd.underlying32 hi hz0 hz1 hz2 rfl (by decide) v n xs hown ad l.length c (zq l) (by rw [zq_len]; omega) (fun j u hj => by
        have hj2 : j < l.length := by
          have := (List.getElem?_eq_some_iff.1 hj).1
          rwa [zq_len] at this
        obtain ⟨g', o', e3, -, z4, -⟩ := hl.nth hj2
        obtain rfl := Option.some.inj e3
        have hj3 : (zq l)[j]? = some (.int .i64 l[j]) := by simp [zq, hj2]
        rw [hj3] at hj
        rw [show (⟨g', o', none⟩ : Addr).add j = ⟨g', o' + j, none⟩ by simp [Addr.add], ← Option.some.inj hj]
        exact z4) (fun u hu => by
        obtain ⟨y, _, rfl⟩ := List.mem_map.1 hu
        rfl) (by unfold maxLen; omega) (by omega) hbase
      exact ⟨v', w', hr, a2, a3⟩
  obtain ⟨v', w', hr, h2', h3'⟩ := main
  unfold Oper.wp execOp
  simp only [ho, resolve, invoke, builtin, Sem.run_bind, Sem.run_pure, Result.andThen_ok, List.map_toArray, List.map_cons, List.map_nil, hs, hx, hr]
  exact hK _ _ (h v' w' h2' h3')
theorem appendIlW {Q' : Nat → Prop} {w : World} {ops : Array Oper} {rest : List Oper} {o : Oper} {a : Act} {Q : Exit → Act → World → Prop} (hgd : o.guard = none) (s x : Operand)
    (ho : o.op = .call { callee := .builtin .append, args := #[s, x], argTypes := #[26, 26] })
    (base : Nat) (v : Value) (n : Nat) (xs : List Value) (hs : a.eval s = v) (hown : w.ownsRow base 47 2 v n xs) (vx : Value) (l : List Ins) (hx : a.eval x = vx) (hl : Il Q' w vx l) (hb : n + l.length ≤ 10000000000000) (hbase : base ≤ w.heap.size)
    (h : ∀ v' w', w'.ownsRow base 47 2 v' (n + l.length) (xs ++ fl inC l) → w.grownBy w' v.ownBlock → wpList Tryd.prog ops Q rest (a.put o.dst v') w') :
    wpList Tryd.prog ops Q (o :: rest) a w := by
  refine wpList_plain hgd fun K hK => ?_
  obtain ⟨i0, hi, hz0, hz1, hz2⟩ := info_parts infoIns
  obtain ⟨ao, c, rfl, h1, h2, h3⟩ := hl
  have main : ∃ v' w', (Builtin.append_ #[26, 26] o.type #[v, .slice ao l.length c]).run Tryd.prog w = .ok v' w' ∧ w'.ownsRow base 47 2 v' (n + l.length) (xs ++ fl inC l) ∧ w.grownBy w' v.ownBlock := by
    cases ao with
    | none =>
      obtain rfl : l = [] := by
        cases l with
        | nil => rfl
        | cons y t =>
          obtain ⟨g, o, e, -⟩ := h3 (by simp)
          cases e
      refine ⟨v, w, ?_, by simpa [fl] using hown, World.grownBy.refl _ _⟩
      rcases hown.2 with ⟨rfl, rfl⟩ | ⟨g, cap, cur, rfl, _, _, hnc, _⟩
      · simp [Builtin.append_, run_underlying Tryd.underlying26, typeInfo, hi, Builtin.lenOf, Builtin.firstCells]
      · simp [Builtin.append_, run_underlying Tryd.underlying26, typeInfo, hi, Builtin.lenOf, Builtin.firstCells, hnc, storeCells]
    | some ad =>
      obtain ⟨v', w', hr, a2, a3, -⟩ := run_append_own_wide (P := Tryd.prog) w base 26 o.type 47 i0 (.agg #[.int .i64 0, .int .i64 0]) 2 16 Tryd.underlying26 hi hz0 hz1 hz2 rfl (by decide) v n xs hown ad l.length c (fl inC l) (by rw [fl_len inC_len]) (fun j u hj => by
        have hj2 : j < l.length * 2 := by
          have := (List.getElem?_eq_some_iff.1 hj).1
          rwa [fl_len inC_len] at this
        obtain ⟨g', o', e3, -, z4⟩ := h3 (by omega)
        obtain rfl := Option.some.inj e3
        obtain ⟨-, -, d0, d1⟩ := z4 (j / 2) (by omega)
        have hj3 := fl_at inC_len l (j / 2) (by omega) (j % 2) (by omega)
        rw [show j / 2 * 2 + j % 2 = j by omega, hj] at hj3
        rw [show (⟨g', o', none⟩ : Addr).add j = ⟨g', o' + j, none⟩ by simp [Addr.add]]
        rcases Nat.mod_two_eq_zero_or_one j with e | e
        · rw [e] at hj3
          rw [show o' + j = o' + j / 2 * 2 by omega, d0, hj3]
          rfl
        · rw [e] at hj3
          rw [show o' + j = o' + j / 2 * 2 + 1 by omega, d1, hj3]
          rfl) (inC_one l) (by unfold maxLen; omega) (by omega) hbase
      exact ⟨v', w', hr, a2, a3⟩
  obtain ⟨v', w', hr, h2', h3'⟩ := main
  unfold Oper.wp execOp
  simp only [ho, resolve, invoke, builtin, Sem.run_bind, Sem.run_pure, Result.andThen_ok, List.map_toArray, List.map_cons, List.map_nil, hs, hx, hr]
  exact hK _ _ (h v' w' h2' h3')
/-- Numbers, with two behind them. -/
def Nx (Q : Nat → Prop) (W : World) (v : Value) (l : List Int) : Prop := ∃ a c, v = .slice a l.length c ∧ l.length + 2 ≤ c ∧ Nl Q W (.slice a (l.length + 2) c) (l ++ [77, 77])
/-- Instructions, with eight behind them. -/
def Ix (Q : Nat → Prop) (W : World) (v : Value) (l : List Ins) : Prop := ∃ a c, v = .slice a l.length c ∧ l.length + 8 ≤ c ∧ Il Q W (.slice a (l.length + 8) c) (i77 l 8)
theorem i77_len (l : List Ins) (k : Nat) : (i77 l k).length = l.length + k := by
  unfold i77
  simp
section
variable {Q Q' S : Nat → Prop} {W W' : World} {v : Value}
theorem Nx.nl {l : List Int} (h : Nx Q W v l) : Nl Q W v l := by
  obtain ⟨a, c, rfl, h1, ao, c', e, h2, h3, h4⟩ := h
  injection e with e1 e2 e3
  subst e1 e3
  refine ⟨_, _, rfl, by omega, h3, fun h0 => ?_⟩
  obtain ⟨g, o, k1, k2, k3⟩ := h4 (by rw [List.length_append]; omega)
  refine ⟨g, o, k1, k2, fun i hi => ?_⟩
  have := k3 i (by rw [List.length_append]; omega)
  rwa [List.getElem_append_left hi] at this
theorem Ix.il {l : List Ins} (h : Ix Q W v l) : Il Q W v l := by
  obtain ⟨a, c, rfl, h1, ao, c', e, h2, h3, h4⟩ := h
  injection e with e1 e2 e3
  subst e1 e3
  refine ⟨_, _, rfl, by omega, h3, fun h0 => ?_⟩
  obtain ⟨g, o, k1, k2, k3⟩ := h4 (by rw [i77_len]; omega)
  refine ⟨g, o, k1, k2, fun i hi => ?_⟩
  have := k3 i (by rw [i77_len]; omega)
  have e : (i77 l 8)[i]'(by rw [i77_len]; omega) = l[i] := by unfold i77; rw [List.getElem_append_left hi]
  rwa [e] at this
theorem Nx.mono {l : List Int} (h : Nx Q W v l) (hq : ∀ j, Q j → Q' j) : Nx Q' W v l := by
  obtain ⟨a, c, h1, h2, h3⟩ := h
  exact ⟨a, c, h1, h2, h3.mono hq⟩
theorem Ix.mono {l : List Ins} (h : Ix Q W v l) (hq : ∀ j, Q j → Q' j) : Ix Q' W v l := by
  obtain ⟨a, c, h1, h2, h3⟩ := h
  exact ⟨a, c, h1, h2, h3.mono hq⟩
theorem Nx.li {N : Nat} {l : List Int} (h : Nx (Li N W) W v l) (hm : Mv W W' S) (hs : ∀ j, Li N W j → ¬ S j) : Nx (Li N W') W' v l := by
  obtain ⟨a, c, h1, h2, h3⟩ := h
  exact ⟨a, c, h1, h2, h3.li hm hs⟩
theorem Ix.li {N : Nat} {l : List Ins} (h : Ix (Li N W) W v l) (hm : Mv W W' S) (hs : ∀ j, Li N W j → ¬ S j) : Ix (Li N W') W' v l := by
  obtain ⟨a, c, h1, h2, h3⟩ := h
  exact ⟨a, c, h1, h2, h3.li hm hs⟩
theorem Ix.mv {l : List Ins} (h : Ix Q W v l) (hm : Mv W W' S) (hs : ∀ j, Q j → ¬ S j) : Ix Q W' v l := by
  obtain ⟨a, c, h1, h2, h3⟩ := h
  exact ⟨a, c, h1, h2, h3.mv hm hs⟩
theorem Ix.later {l : List Ins} (h : Ix Q W v l) (hb : Below W.heap.size W W') : Ix Q W' v l := h.mv (Mv.of_below hb (fun _ => False)) (fun _ _ e => e)
theorem Nx.oc {l : List Int} (h : Nx Q W v l) : v.oneCell' = true := h.nl.oc
theorem Ix.oc {l : List Ins} (h : Ix Q W v l) : v.oneCell' = true := h.il.oc
end
theorem own_nx {w : World} {B g n c : Nat} {l : List Int} (h : w.ownsRow B 3 1 (.slice (some ⟨g, 0, none⟩) (n + 2) c) (n + 2) (zq (l ++ [77, 77]))) (hn : n = l.length) (h6 : ∀ i ∈ l, I6 i) : Nx (fun j => j = g) w (.slice (some ⟨g, 0, none⟩) n c) l := by
  subst hn
  obtain ⟨h1, h2⟩ := own_cap h
  have h' : w.ownsRow B 3 1 (.slice (some ⟨g, 0, none⟩) (l.length + 2) c) (l.length + 2) (zq ((l ++ [77, 77]) ++ [])) := by rw [List.append_nil]; exact h
  exact ⟨_, c, rfl, h1, own_nl h' (by rw [List.length_append]; rfl) (fun i hi => by
    rw [List.mem_append] at hi
    rcases hi with hi | hi
    · exact h6 i hi
    · simp only [List.mem_cons, List.not_mem_nil, or_false, or_self] at hi
      subst hi
      exact (⟨by decide, by decide⟩ : I6 77))⟩
theorem own_ix {w : World} {B g n m c : Nat} {l : List Ins} (h : w.ownsRow B 47 2 (.slice (some ⟨g, 0, none⟩) m c) m (fl inC (i77 l 8))) (hn : n = l.length) (h6 : ∀ i ∈ l, I6 i.op ∧ I6 i.a) : Ix (fun j => j = g) w (.slice (some ⟨g, 0, none⟩) n c) l := by
  subst hn
  obtain ⟨h1, h2⟩ := own_cap h
  have hm : m = l.length + 8 := by have := h.1; rw [fl_len inC_len, i77_len] at this; omega
  subst hm
  have h' : w.ownsRow B 47 2 (.slice (some ⟨g, 0, none⟩) (l.length + 8) c) (l.length + 8) (fl inC (i77 l 8 ++ [])) := by rw [List.append_nil]; exact h
  exact ⟨_, c, rfl, h1, own_il h' (by rw [i77_len]) (fun i hi => by
    unfold i77 at hi
    rw [List.mem_append] at hi
    rcases hi with hi | hi
    · exact h6 i hi
    · rw [(List.mem_replicate.1 hi).2]
      exact ⟨(⟨by decide, by decide⟩ : I6 77), (⟨by decide, by decide⟩ : I6 0)⟩)⟩
set_option maxHeartbeats 4000000 in
theorem lsetW_any {Q : Nat → Prop} {w : World} {ao : Option Addr} {n c : Nat} (l : List Int) (h : Nl Q w (.slice ao n c) l) (hn : n = l.length) (hz : n ≤ 19000000000000) : Calls Tryd.prog 22 #[.slice ao n c] w fun e w' => ∃ g c', e = .returned (.slice (some ⟨g, 0, none⟩) n c') ∧ Lk 3 w.heap.size w' g ∧ Nx (fun j => j = g) w' (.slice (some ⟨g, 0, none⟩) n c') l ∧ n ≤ c' ∧ c' ≤ 9223372036854775807 ∧ Below w.heap.size w w' := by
  have H6 := hide h.six
  have HN := hide hn
  have H0 := hide h
  obtain ⟨ao', c', e, hc1, hc2⟩ := h.at
  injection e with e1 e2 e3
  subst e1 e3
  have hc1 : n ≤ c := by omega
  clear h hn e2
  go_enter Tryd.func22, Tryd.ntmps22
  go_wp2_with (at_builtin; refine appendNlW rfl _ _ rfl w.heap.size _ 0 [] rfl (World.ownsRow_nil _ _ _ _) _ l rfl H0.out ?k1 (Nat.le_refl _) ?_)
  case k1 => have := HN.out; omega
  intro v1 w1 o1 g1
  replace o1 : w1.ownsRow w.heap.size 3 1 v1 n (zq l) := by rw [HN.out]; simpa using o1
  have B1 : Hid (Below w.heap.size w w1) := Below.grown (Below.refl _ _) g1 (Nat.le_refl _) (fun k e => by cases e)
  have O1 := hide o1
  obtain ⟨a1, c1, rfl⟩ := own_len o1
  clear o1 g1 H0
  go_upto_region 3 with fail
  have HL : Hid (Nl (fun _ => True) (w1.alloc (.cells #[.int .i64 77, .int .i64 77] 3)) (.slice (some ⟨w1.heap.size, 0, none⟩) 2 2) [77, 77]) := by
    have k : ∀ j, (w1.alloc (.cells #[.int .i64 77, .int .i64 77] 3)).cell? ⟨w1.heap.size, j, none⟩ = (#[Value.int .i64 77, .int .i64 77] : Array Value)[j]? := fun j => cell_of_row _ _ _ _ 3 (0, 0) (heap_alloc_new w1 _)
    refine ⟨_, 2, rfl, Nat.le_refl 2, by decide, fun _ => ⟨_, 0, rfl, trivial, fun i hi => ?_⟩⟩
    match i, hi with
    | 0, _ => exact ⟨(⟨by decide, by decide⟩ : I6 77), k 0⟩
    | 1, _ => exact ⟨(⟨by decide, by decide⟩ : I6 77), k 1⟩
  have BA := hide (below_on B1.out (below_alloc w1 (.cells #[.int .i64 77, .int .i64 77] 3)))
  go_wp2_with (at_builtin; refine appendNlW rfl _ _ rfl w.heap.size _ n (zq l) rfl ?m0 _ [77, 77] rfl HL.out ?m1 ?m2 ?_)
  case m0 => exact O1.out.alloc _
  case m1 => show n + 2 ≤ _; omega
  case m2 => exact BA.out.size
  intro v2 w2 o2 g2
  have e2 : zq l ++ zq [77, 77] = zq (l ++ [77, 77]) := by simp [zq]
  replace o2 : w2.ownsRow w.heap.size 3 1 v2 (n + 2) (zq (l ++ [77, 77])) := by rw [← e2]; exact o2
  have B2 : Hid (Below w.heap.size w w2) := BA.out.grown g2 BA.out.size (fun k e => (O1.out.lt k e).1)
  have O2 := hide o2
  obtain ⟨g, c2, rfl⟩ : ∃ g c2, v2 = .slice (some ⟨g, 0, none⟩) (n + 2) c2 := by
    rcases o2.2 with ⟨-, e⟩ | ⟨g, cap, cur, rfl, -⟩
    · omega
    · exact ⟨g, cap, rfl⟩
  obtain ⟨q1, q2⟩ := own_cap o2
  have HK : Hid (Lk 3 w.heap.size w2 g) := ⟨(o2.lt g rfl).1, own_blk2 o2 rfl⟩
  clear o2 g2 O1 B1 BA HL e2
  have t1 : (n : Int) ≤ c2 := by omega
  go_wp2_with fail
  go_ret
  exact ⟨g, _, rfl, HK.out, own_nx O2.out HN.out H6.out, by omega, q2, B2.out⟩
set_option maxHeartbeats 4000000 in
theorem lrowW_any {Q : Nat → Prop} {w : World} {ao : Option Addr} {n c : Nat} (l : List Ins) (h : Il Q w (.slice ao n c) l) (hn : n = l.length) (hz : n ≤ 9000000000000) : Calls Tryd.prog 8 #[.slice ao n c] w fun e w' => ∃ g c', e = .returned (.slice (some ⟨g, 0, none⟩) n c') ∧ Lk 47 w.heap.size w' g ∧ Ix (fun j => j = g) w' (.slice (some ⟨g, 0, none⟩) n c') l ∧ n ≤ c' ∧ c' ≤ 9223372036854775807 ∧ Below w.heap.size w w' := by
  have H6 := hide h.six
  have HN := hide hn
  have H0 := hide h
  obtain ⟨hc1, hc2⟩ : n ≤ c ∧ c ≤ 9223372036854775807 := by
    obtain ⟨ao', c', e, hc1, hc2, -⟩ := h
    injection e with e1 e2 e3
    unfold maxLen at hc2
    omega
  clear h hn
  go_enter Tryd.func8, Tryd.ntmps8
  go_wp2_with (at_builtin; refine appendIlW rfl _ _ rfl w.heap.size _ 0 [] rfl (World.ownsRow_nil _ _ _ _) _ l rfl H0.out ?k1 (Nat.le_refl _) ?_)
  case k1 => have := HN.out; omega
  intro v1 w1 o1 g1
  have B1 : Hid (Below w.heap.size w w1) := Below.grown (Below.refl _ _) g1 (Nat.le_refl _) (fun k e => by cases e)
  have O1 : Hid (w1.ownsRow w.heap.size 47 2 v1 (n + 0) (fl inC (i77 l 0))) := by unfold Hid i77; rw [HN.out]; simpa using o1
  clear o1 g1 H0
  go_upto_region 3 with fail
  go_wp2_with fail
  go_loopw [3, 4] (fun v3 v4 W => ∃ i : Nat, i ≤ 8 ∧ v4 = .int .i64 (i : Int) ∧ Hid (W.ownsRow w.heap.size 47 2 v3 (n + i) (fl inC (i77 l i))) ∧ Hid (Below w.heap.size w W)) (fun _ v4 _ => 8 - (intOf v4).toNat)
  case atStart => exact ⟨0, by omega, rfl, O1, B1⟩
  case round =>
    obtain ⟨i, hi, rfl, HO, HB⟩ := hrel
    obtain ⟨m, hm⟩ : ∃ m, m = n + i := ⟨_, rfl⟩
    have HM := hide hm
    rw [← hm] at HO
    obtain ⟨a3, c3, rfl⟩ := own_len HO.out
    obtain ⟨q1, q2⟩ := own_cap HO.out
    by_cases hlt : i < 8
    · have t1 : (i : Int) < 8 := by omega
      have HL : Hid (Il (fun _ => True) (wr.alloc (.cells #[.int .i64 77, .int .i64 0] 47)) (.slice (some ⟨wr.heap.size, 0, none⟩) 1 1) [⟨77, 0⟩]) := by
        have k : ∀ j, (wr.alloc (.cells #[.int .i64 77, .int .i64 0] 47)).cell? ⟨wr.heap.size, j, none⟩ = (#[Value.int .i64 77, .int .i64 0] : Array Value)[j]? := fun j => cell_of_row _ _ _ _ 47 (0, 0) (heap_alloc_new wr _)
        refine ⟨_, 1, rfl, Nat.le_refl 1, by decide, fun _ => ⟨_, 0, rfl, trivial, fun i hi => ?_⟩⟩
        match i, hi with
        | 0, _ => exact ⟨(⟨by decide, by decide⟩ : I6 77), (⟨by decide, by decide⟩ : I6 0), k 0, k 1⟩
      have BA := hide (below_on HB.out (below_alloc wr (.cells #[.int .i64 77, .int .i64 0] 47)))
      clear hm
      go_wp2_with (at_builtin; refine appendIlW rfl _ _ rfl w.heap.size _ m (fl inC (i77 l i)) rfl ?m0 _ [⟨77, 0⟩] rfl HL.out ?m1 ?m2 ?_)
      case m0 => exact HO.out.alloc _
      case m1 => have := HM.out; show m + 1 ≤ _; omega
      case m2 => exact BA.out.size
      intro v2 w2 o2 g2
      have B2 : Hid (Below w.heap.size w w2) := BA.out.grown g2 BA.out.size (fun k e => (HO.out.lt k e).1)
      have O2 : Hid (w2.ownsRow w.heap.size 47 2 v2 (n + (i + 1)) (fl inC (i77 l (i + 1)))) := by
        unfold Hid
        rw [← i77_on, show n + (i + 1) = m + 1 by have := HM.out; omega]
        exact o2
      clear o2 g2 HO HB BA HL
      go_wp2_with fail
      go_roundw
      case rel => exact ⟨i + 1, by omega, by go_num, O2, B2⟩
      case measure => show 8 - (intOf (.int .i64 ((i : Int) + 1))).toNat < 8 - (intOf (.int .i64 (i : Int))).toNat; simp only [intOf]; omega
    · have e8 : i = 8 := by omega
      subst e8
      have HK : Hid (∃ g, a3 = some ⟨g, 0, none⟩) := by
        rcases HO.out.2 with ⟨e, e'⟩ | ⟨g, cap, cur, e, -⟩
        · have := HM.out
          have : m = 0 := by injection e
          omega
        · injection e with e1
          exact ⟨g, e1⟩
      obtain ⟨g, rfl⟩ := HK.out
      have t1 : ((8 : Nat) : Int) = 8 := rfl
      have t2 : (n : Int) ≤ c3 := by have := HM.out; omega
      have HK2 : Hid (Lk 47 w.heap.size wr g) := ⟨(HO.out.lt g rfl).1, own_blk2 HO.out rfl⟩
      clear hm HK
      rw [t1]
      go_wp2_with fail
      go_ret
      exact ⟨g, _, rfl, HK2.out, own_ix HO.out HN.out H6.out, by omega, q2, HB.out⟩
end Go.Proofs.YtklamaibinjcmaaDoor

/-
  Verify: a program of one's own in memory, with what stands behind its lists; the law's lent, of any size.
-/
namespace Go.Proofs.YtklamaibinjcmaaDoor.Wd
open Go.RowKit
set_option maxRecDepth 100000
section
variable {N : Nat} {W W' : World} {S : Nat → Prop}
structure SyL (N : Nat) (W : World) (x : Sy × Lv) : Prop where
  pa : I6 x.1.run.pa
  lo : I6 x.1.run.lo
  wi : Nx (Li N W) W x.2.v1 x.1.wi
  wo : Nx (Li N W) W x.2.v2 x.1.wo
  re : Nx (Li N W) W x.2.v3 x.1.re
  wr : Nx (Li N W) W x.2.v4 x.1.wr
  co : Ix (Li N W) W x.2.vc x.1.run.code
structure RtL (N : Nat) (W : World) (x : Rt × Value) : Prop where
  pa : I6 x.1.pa
  lo : I6 x.1.lo
  co : Ix (Li N W) W x.2 x.1.code
theorem SyL.mv {x : Sy × Lv} (h : SyL N W x) (hm : Mv W W' S) (hs : ∀ j, Li N W j → ¬ S j) : SyL N W' x := ⟨h.pa, h.lo, h.wi.li hm hs, h.wo.li hm hs, h.re.li hm hs, h.wr.li hm hs, h.co.li hm hs⟩
theorem RtL.mv {x : Rt × Value} (h : RtL N W x) (hm : Mv W W' S) (hs : ∀ j, Li N W j → ¬ S j) : RtL N W' x := ⟨h.pa, h.lo, h.co.li hm hs⟩
theorem SyL.one {x : Sy × Lv} (h : SyL N W x) : ∀ u ∈ lvC x, u.oneCell' = true := fun u hu => by
  simp only [lvC, List.mem_cons, List.not_mem_nil, or_false] at hu
  rcases hu with rfl | rfl | rfl | rfl | rfl | rfl | rfl | rfl
  · exact h.wi.oc
  · exact h.wo.oc
  · exact h.re.oc
  · exact h.wr.oc
  · rfl
  · rfl
  · rfl
  · exact h.co.oc
theorem RtL.one {x : Rt × Value} (h : RtL N W x) : ∀ u ∈ rwC x, u.oneCell' = true := fun u hu => by
  simp only [rwC, List.mem_cons, List.not_mem_nil, or_false] at hu
  rcases hu with rfl | rfl | rfl | rfl
  · rfl
  · rfl
  · rfl
  · exact h.co.oc
/-- The systems. -/
structure LS (N : Nat) (W : World) (vs : Value) (ls : List (Sy × Lv)) : Prop where
  row : W.ownsRow N 60 8 vs ls.length (fl lvC ls)
  all : ∀ x ∈ ls, SyL N W x
structure LF (N : Nat) (W : World) (vf : Value) (lf : List (Rt × Value)) : Prop where
  row : W.ownsRow N 28 4 vf lf.length (fl rwC lf)
  all : ∀ x ∈ lf, RtL N W x
variable {vs vf v' : Value} {ls : List (Sy × Lv)} {lf : List (Rt × Value)}
theorem LS.mv (h : LS N W vs ls) (hm : Mv W W' S) (hs : ∀ j, Li N W j → ¬ S j) (hv : ∀ j, vs.ownBlock = some j → ¬ S j) : LS N W' vs ls := ⟨hm.own h.row hv, fun x hx => (h.all x hx).mv hm hs⟩
theorem LF.mv (h : LF N W vf lf) (hm : Mv W W' S) (hs : ∀ j, Li N W j → ¬ S j) (hv : ∀ j, vf.ownBlock = some j → ¬ S j) : LF N W' vf lf := ⟨hm.own h.row hv, fun x hx => (h.all x hx).mv hm hs⟩
theorem LS.later (h : LS N W vs ls) (hb : Below W.heap.size W W') : LS N W' vs ls := h.mv (Mv.of_below hb (fun _ => False)) (fun _ _ e => e) (fun _ _ e => e)
theorem LF.later (h : LF N W vf lf) (hb : Below W.heap.size W W') : LF N W' vf lf := h.mv (Mv.of_below hb (fun _ => False)) (fun _ _ e => e) (fun _ _ e => e)
theorem LS.nil : LS N W (.slice none 0 0) [] := ⟨World.ownsRow_nil _ _ _ _, fun x hx => absurd hx (by simp)⟩
theorem LF.nil : LF N W (.slice none 0 0) [] := ⟨World.ownsRow_nil _ _ _ _, fun x hx => absurd hx (by simp)⟩
/-- One more. -/
theorem LS.push {x : Sy × Lv} (h : LS N W vs ls) (hx : SyL N W x) (ho : W'.ownsRow N 60 8 v' (ls.length + 1) (fl lvC ls ++ lvC x)) (hg : W.grownBy W' vs.ownBlock) : LS N W' v' (ls ++ [x]) := by
  have key : ∀ y, SyL N W y → SyL N W' y := fun y hy => hy.mv (mv_grown hg) (fun j hj => hj.not h.row (by decide) (by decide))
  refine ⟨?_, fun y hy => ?_⟩
  · rw [List.length_append, List.length_singleton, fl_snoc]
    exact ho
  · rcases List.mem_append.1 hy with hy | hy
    · exact key y (h.all y hy)
    · obtain rfl := List.mem_singleton.1 hy
      exact key _ hx
theorem LF.push {x : Rt × Value} (h : LF N W vf lf) (hx : RtL N W x) (ho : W'.ownsRow N 28 4 v' (lf.length + 1) (fl rwC lf ++ rwC x)) (hg : W.grownBy W' vf.ownBlock) : LF N W' v' (lf ++ [x]) := by
  have key : ∀ y, RtL N W y → RtL N W' y := fun y hy => hy.mv (mv_grown hg) (fun j hj => hj.not h.row (by decide) (by decide))
  refine ⟨?_, fun y hy => ?_⟩
  · rw [List.length_append, List.length_singleton, fl_snoc]
    exact ho
  · rcases List.mem_append.1 hy with hy | hy
    · exact key y (h.all y hy)
    · obtain rfl := List.mem_singleton.1 hy
      exact key _ hx
/-- The other row stays. -/
theorem LS.grown {B e s n : Nat} {v : Value} {xs : List Value} (h : LS N W vs ls) (ho : W.ownsRow B e s v n xs) (h1 : e ≠ 3) (h2 : e ≠ 47) (h3 : e ≠ 60) (hg : W.grownBy W' v.ownBlock) : LS N W' vs ls := h.mv (mv_grown hg) (fun _j hj => hj.not ho h1 h2) (fun j e1 e2 => own_ap2 h.row ho (fun e => h3 e.symm) j e1 e2)
theorem LF.grown {B e s n : Nat} {v : Value} {xs : List Value} (h : LF N W vf lf) (ho : W.ownsRow B e s v n xs) (h1 : e ≠ 3) (h2 : e ≠ 47) (h3 : e ≠ 28) (hg : W.grownBy W' v.ownBlock) : LF N W' vf lf := h.mv (mv_grown hg) (fun _j hj => hj.not ho h1 h2) (fun j e1 e2 => own_ap2 h.row ho (fun e => h3 e.symm) j e1 e2)
theorem LS.cut {B c g : Nat} {xs : List Value} (h : LS N W vs ls) (ho : W'.ownsRow N 60 8 (.slice (some ⟨g, 0, none⟩) (ls.length + 1) c) (ls.length + 1) (fl lvC ls ++ xs)) (hg : W.grownBy W' vs.ownBlock) (hB : B = ls.length) : LS N W' (.slice (some ⟨g, 0, none⟩) B c) ls := by
  subst hB
  refine ⟨?_, fun y hy => (h.all y hy).mv (mv_grown hg) (fun j hj => hj.not h.row (by decide) (by decide))⟩
  have := own_cut8 (k := ls.length) ho (by omega)
  rw [← fl_len lvC_len, List.take_left] at this
  exact this
theorem LF.cut {B c g : Nat} {xs : List Value} (h : LF N W vf lf) (ho : W'.ownsRow N 28 4 (.slice (some ⟨g, 0, none⟩) (lf.length + 1) c) (lf.length + 1) (fl rwC lf ++ xs)) (hg : W.grownBy W' vf.ownBlock) (hB : B = lf.length) : LF N W' (.slice (some ⟨g, 0, none⟩) B c) lf := by
  subst hB
  refine ⟨?_, fun y hy => (h.all y hy).mv (mv_grown hg) (fun j hj => hj.not h.row (by decide) (by decide))⟩
  have := own_cut8 (k := lf.length) ho (by omega)
  rw [← fl_len rwC_len, List.take_left] at this
  exact this
/-- As it is read. -/
theorem LS.sys (h : LS N W vs ls) : Sys (fun _ => True) W vs (ls.map Prod.fst) := by
  obtain ⟨ao, c, rfl⟩ := own_len h.row
  obtain ⟨c1, c2⟩ := own_cap h.row
  refine ⟨ao, c, by rw [List.length_map], by rw [List.length_map]; exact c1, by unfold maxLen; omega, fun h0 => ?_⟩
  rw [List.length_map] at h0
  obtain ⟨g, c', e, -⟩ := own_form h.row h0
  injection e with e1 e2 e3
  subst e1
  refine ⟨g, 0, rfl, trivial, fun i hi => ?_⟩
  rw [List.length_map] at hi
  have hx := h.all _ (List.getElem_mem hi)
  have key : ∀ j, j < 8 → W.cell? ⟨g, i * 8 + j, none⟩ = (lvC ls[i])[j]? := fun j hj => (h.row.cellAt _ (by omega)).trans (fl_at lvC_len ls i hi j hj)
  rw [List.getElem_map, Nat.zero_add]
  exact ⟨hx.pa, hx.lo, _, _, _, _, _, key 0 (by omega), key 1 (by omega), key 2 (by omega), key 3 (by omega), key 4 (by omega), key 5 (by omega), key 6 (by omega), key 7 (by omega), hx.wi.nl.mono (fun _ _ => trivial), hx.wo.nl.mono (fun _ _ => trivial), hx.re.nl.mono (fun _ _ => trivial), hx.wr.nl.mono (fun _ _ => trivial), hx.co.il.mono (fun _ _ => trivial)⟩
theorem LF.rts (h : LF N W vf lf) : Rts (fun _ => True) W vf (lf.map Prod.fst) := by
  obtain ⟨ao, c, rfl⟩ := own_len h.row
  obtain ⟨c1, c2⟩ := own_cap h.row
  refine ⟨ao, c, by rw [List.length_map], by rw [List.length_map]; exact c1, by unfold maxLen; omega, fun h0 => ?_⟩
  rw [List.length_map] at h0
  obtain ⟨g, c', e, -⟩ := own_form h.row h0
  injection e with e1 e2 e3
  subst e1
  refine ⟨g, 0, rfl, trivial, fun i hi => ?_⟩
  rw [List.length_map] at hi
  have hx := h.all _ (List.getElem_mem hi)
  have key : ∀ j, j < 4 → W.cell? ⟨g, i * 4 + j, none⟩ = (rwC lf[i])[j]? := fun j hj => (h.row.cellAt _ (by omega)).trans (fl_at rwC_len lf i hi j hj)
  rw [List.getElem_map, Nat.zero_add]
  exact ⟨hx.pa, hx.lo, _, key 0 (by omega), key 1 (by omega), key 2 (by omega), key 3 (by omega), hx.co.il.mono (fun _ _ => trivial)⟩
end
/-- A system that is copied, list by list. -/
structure Sp (N : Nat) (w0 W : World) (gs : Nat) (x : Lv) (s : Sy) (d : Nat) : Prop where
  blk : W.heap[gs]? = some (.cells #[x.v1, x.v2, x.v3, x.v4, .string s.run.name, .int .i64 s.run.pa, .int .i64 s.run.lo, x.vc] 60 (0, 0))
  bel : Below w0.heap.size w0 W
  ge : w0.heap.size ≤ gs
  a1 : 1 ≤ d → Nx (Li N W) W x.v1 s.wi
  a2 : 2 ≤ d → Nx (Li N W) W x.v2 s.wo
  a3 : 3 ≤ d → Nx (Li N W) W x.v3 s.re
  a4 : 4 ≤ d → Nx (Li N W) W x.v4 s.wr
  a5 : 5 ≤ d → Ix (Li N W) W x.vc s.run.code
section
variable {N : Nat} {w0 W w' : World} {gs : Nat} {x : Lv} {s : Sy} {d : Nat} {y : Value}
theorem Sp.cells (h : Sp N w0 W gs x s d) : W.cell? ⟨gs, 0, none⟩ = some x.v1 ∧ W.cell? ⟨gs, 1, none⟩ = some x.v2 ∧ W.cell? ⟨gs, 2, none⟩ = some x.v3 ∧ W.cell? ⟨gs, 3, none⟩ = some x.v4 ∧ W.cell? ⟨gs, 4, none⟩ = some (.string s.run.name) ∧ W.cell? ⟨gs, 5, none⟩ = some (.int .i64 s.run.pa) ∧ W.cell? ⟨gs, 6, none⟩ = some (.int .i64 s.run.lo) ∧ W.cell? ⟨gs, 7, none⟩ = some x.vc := row8 h.blk
theorem Sp.later (h : Sp N w0 W gs x s d) (hb : Below W.heap.size W w') : Sp N w0 w' gs x s d := by
  have hm := Mv.of_below hb (fun _ => False)
  have hs : ∀ j, Li N W j → ¬ False := fun _ _ e => e
  exact ⟨(hb.block _ (lt_of_block h.blk)).trans h.blk, below_on h.bel hb, h.ge, fun e => (h.a1 e).li hm hs, fun e => (h.a2 e).li hm hs, fun e => (h.a3 e).li hm hs, fun e => (h.a4 e).li hm hs, fun e => (h.a5 e).li hm hs⟩
theorem Sp.bels (h : Sp N w0 W gs x s d) (k : Nat) (u : Value) : Below w0.heap.size w0 (W.setCell ⟨gs, k, none⟩ u) := h.bel.setCell h.ge u
theorem Sp.next1 (h : Sp N w0 W gs x s 0) (hy : Nx (Li N W) W y s.wi) : Sp N w0 (W.setCell ⟨gs, 0, none⟩ y) gs ⟨y, x.v2, x.v3, x.v4, x.vc⟩ s 1 := by
  have hm := mv_set W gs 0 y
  have hs : ∀ j, Li N W j → ¬ j = gs := fun j hj => hj.notb h.blk (by decide) (by decide)
  exact ⟨by rw [heap_setCell_same W gs 0 _ 60 y h.blk]; rfl, h.bels _ _, h.ge, fun _ => hy.li hm hs, fun e => absurd e (by omega), fun e => absurd e (by omega), fun e => absurd e (by omega), fun e => absurd e (by omega)⟩
theorem Sp.next2 (h : Sp N w0 W gs x s 1) (hy : Nx (Li N W) W y s.wo) : Sp N w0 (W.setCell ⟨gs, 1, none⟩ y) gs ⟨x.v1, y, x.v3, x.v4, x.vc⟩ s 2 := by
  have hm := mv_set W gs 1 y
  have hs : ∀ j, Li N W j → ¬ j = gs := fun j hj => hj.notb h.blk (by decide) (by decide)
  exact ⟨by rw [heap_setCell_same W gs 1 _ 60 y h.blk]; rfl, h.bels _ _, h.ge, fun _ => (h.a1 (by omega)).li hm hs, fun _ => hy.li hm hs, fun e => absurd e (by omega), fun e => absurd e (by omega), fun e => absurd e (by omega)⟩
theorem Sp.next3 (h : Sp N w0 W gs x s 2) (hy : Nx (Li N W) W y s.re) : Sp N w0 (W.setCell ⟨gs, 2, none⟩ y) gs ⟨x.v1, x.v2, y, x.v4, x.vc⟩ s 3 := by
  have hm := mv_set W gs 2 y
  have hs : ∀ j, Li N W j → ¬ j = gs := fun j hj => hj.notb h.blk (by decide) (by decide)
  exact ⟨by rw [heap_setCell_same W gs 2 _ 60 y h.blk]; rfl, h.bels _ _, h.ge, fun _ => (h.a1 (by omega)).li hm hs, fun _ => (h.a2 (by omega)).li hm hs, fun _ => hy.li hm hs, fun e => absurd e (by omega), fun e => absurd e (by omega)⟩
theorem Sp.next4 (h : Sp N w0 W gs x s 3) (hy : Nx (Li N W) W y s.wr) : Sp N w0 (W.setCell ⟨gs, 3, none⟩ y) gs ⟨x.v1, x.v2, x.v3, y, x.vc⟩ s 4 := by
  have hm := mv_set W gs 3 y
  have hs : ∀ j, Li N W j → ¬ j = gs := fun j hj => hj.notb h.blk (by decide) (by decide)
  exact ⟨by rw [heap_setCell_same W gs 3 _ 60 y h.blk]; rfl, h.bels _ _, h.ge, fun _ => (h.a1 (by omega)).li hm hs, fun _ => (h.a2 (by omega)).li hm hs, fun _ => (h.a3 (by omega)).li hm hs, fun _ => hy.li hm hs, fun e => absurd e (by omega)⟩
theorem Sp.next5 (h : Sp N w0 W gs x s 4) (hy : Ix (Li N W) W y s.run.code) : Sp N w0 (W.setCell ⟨gs, 7, none⟩ y) gs ⟨x.v1, x.v2, x.v3, x.v4, y⟩ s 5 := by
  have hm := mv_set W gs 7 y
  have hs : ∀ j, Li N W j → ¬ j = gs := fun j hj => hj.notb h.blk (by decide) (by decide)
  exact ⟨by rw [heap_setCell_same W gs 7 _ 60 y h.blk]; rfl, h.bels _ _, h.ge, fun _ => (h.a1 (by omega)).li hm hs, fun _ => (h.a2 (by omega)).li hm hs, fun _ => (h.a3 (by omega)).li hm hs, fun _ => (h.a4 (by omega)).li hm hs, fun _ => hy.li hm hs⟩
theorem Sp.done (h : Sp N w0 W gs x s 5) (h1 : I6 s.run.pa) (h2 : I6 s.run.lo) : SyL N W (s, x) := ⟨h1, h2, h.a1 (by omega), h.a2 (by omega), h.a3 (by omega), h.a4 (by omega), h.a5 (by omega)⟩
end
/-- What is lent so far. -/
structure Lq (N : Nat) (w W : World) (gp gr gq : Nat) (vp1 vp2 vs vf : Value) (ls : List (Sy × Lv)) (lf : List (Rt × Value)) : Prop where
  p : W.heap[gp]? = some (.cells #[vp1, vp2] 25 (0, 0))
  r : W.heap[gr]? = some (.cells #[.slice none 0 0, .slice none 0 0] 25 (0, 0))
  q : W.heap[gq]? = some (.cells #[vs, vf] 25 (0, 0))
  s : LS N W vs ls
  f : LF N W vf lf
  b : Below w.heap.size w W
  n : N = w.heap.size ∧ N ≤ gp ∧ gp < gr ∧ gr < gq
section
variable {N : Nat} {w W W' : World} {gp gr gq : Nat} {vp1 vp2 vs vf u : Value} {ls : List (Sy × Lv)} {lf : List (Rt × Value)} {S : Nat → Prop}
theorem Lq.later (h : Lq N w W gp gr gq vp1 vp2 vs vf ls lf) (hb : Below W.heap.size W W') : Lq N w W' gp gr gq vp1 vp2 vs vf ls lf := ⟨(hb.block _ (lt_of_block h.p)).trans h.p, (hb.block _ (lt_of_block h.r)).trans h.r, (hb.block _ (lt_of_block h.q)).trans h.q, h.s.later hb, h.f.later hb, below_on h.b hb, h.n⟩
theorem Lq.cells (h : Lq N w W gp gr gq vp1 vp2 vs vf ls lf) : W.cell? ⟨gp, 0, none⟩ = some vp1 ∧ W.cell? ⟨gp, 1, none⟩ = some vp2 ∧ W.cell? ⟨gq, 0, none⟩ = some vs ∧ W.cell? ⟨gq, 1, none⟩ = some vf := by
  refine ⟨?_, ?_, ?_, ?_⟩
  · rw [cell_of_row W _ _ _ 25 (0, 0) h.p]; rfl
  · rw [cell_of_row W _ _ _ 25 (0, 0) h.p]; rfl
  · rw [cell_of_row W _ _ _ 25 (0, 0) h.q]; rfl
  · rw [cell_of_row W _ _ _ 25 (0, 0) h.q]; rfl
/-- The rows turn, and the variable is told. -/
theorem Lq.putS {ls' : List (Sy × Lv)} (h : Lq N w W gp gr gq vp1 vp2 vs vf ls lf) (hg : W.grownBy W' vs.ownBlock) (hs : LS N W' u ls') : Lq N w (W'.setCell ⟨gq, 0, none⟩ u) gp gr gq vp1 vp2 u vf ls' lf := by
  obtain ⟨n1, n2, n3, n4⟩ := h.n
  have hm := mv_grown hg
  have k : ∀ {g : Nat} {cs : Array Value}, W.heap[g]? = some (.cells cs 25 (0, 0)) → W'.heap[g]? = some (.cells cs 25 (0, 0)) := fun hx => hm.at hx (notPg h.s.row hx (by decide))
  have hq := k h.q
  have hf := h.f.grown h.s.row (by decide) (by decide) (by decide) hg
  have m2 := mv_set W' gq 0 u
  have li : ∀ j, Li N W' j → ¬ j = gq := fun j hj => hj.notb hq (by decide) (by decide)
  refine ⟨m2.at (k h.p) (by omega), m2.at (k h.r) (by omega), by rw [heap_setCell_same W' gq 0 _ 25 u hq]; rfl, hs.mv m2 li ?_, hf.mv m2 li ?_, ?_, h.n⟩
  · rintro j e rfl
    exact notPg hs.row hq (by decide) e
  · rintro j e rfl
    exact notPg hf.row hq (by decide) e
  · exact (h.b.grown hg h.b.size (fun k e => by have := (h.s.row.lt k e).1; omega)).setCell (by show _ ≤ gq; omega) u
theorem Lq.putF {lf' : List (Rt × Value)} (h : Lq N w W gp gr gq vp1 vp2 vs vf ls lf) (hg : W.grownBy W' vf.ownBlock) (hf : LF N W' u lf') : Lq N w (W'.setCell ⟨gq, 1, none⟩ u) gp gr gq vp1 vp2 vs u ls lf' := by
  obtain ⟨n1, n2, n3, n4⟩ := h.n
  have hm := mv_grown hg
  have k : ∀ {g : Nat} {cs : Array Value}, W.heap[g]? = some (.cells cs 25 (0, 0)) → W'.heap[g]? = some (.cells cs 25 (0, 0)) := fun hx => hm.at hx (notPg h.f.row hx (by decide))
  have hq := k h.q
  have hs := h.s.grown h.f.row (by decide) (by decide) (by decide) hg
  have m2 := mv_set W' gq 1 u
  have li : ∀ j, Li N W' j → ¬ j = gq := fun j hj => hj.notb hq (by decide) (by decide)
  refine ⟨m2.at (k h.p) (by omega), m2.at (k h.r) (by omega), by rw [heap_setCell_same W' gq 1 _ 25 u hq]; rfl, hs.mv m2 li ?_, hf.mv m2 li ?_, ?_, h.n⟩
  · rintro j e rfl
    exact notPg hs.row hq (by decide) e
  · rintro j e rfl
    exact notPg hf.row hq (by decide) e
  · exact (h.b.grown hg h.b.size (fun k e => by have := (h.f.row.lt k e).1; omega)).setCell (by show _ ≤ gq; omega) u
end
/-- All blocks but those of a kind stay. -/
def KP (e : Nat) (W W' : World) : Prop := ∀ (g : Nat) (cs : Array Value) (t : Nat), t ≠ e → W.heap[g]? = some (Obj.cells cs t (0, 0)) → W'.heap[g]? = some (Obj.cells cs t (0, 0))
theorem KP.grown {W W' : World} {B e s n : Nat} {v : Value} {xs : List Value} (ho : W.ownsRow B e s v n xs) (hg : W.grownBy W' v.ownBlock) : KP e W W' := fun g cs t ht h => by
  refine (hg.block g (lt_of_block h) (fun e' => ?_)).trans h
  obtain ⟨ds, hd⟩ := own_blk2 ho e'.symm
  rw [h] at hd
  injection hd with hd
  injection hd with h1 h2
  exact ht h2
theorem KP.set {W : World} {g k e : Nat} {u : Value} {ds : Array Value} (h : W.heap[g]? = some (.cells ds e (0, 0))) : KP e W (W.setCell ⟨g, k, none⟩ u) := fun _ _ _ ht hg => setCell_kind W g k u h hg ht
theorem KP.below {W W' : World} {e : Nat} (hb : Below W.heap.size W W') : KP e W W' := fun _ _ _ _ h => (hb.block _ (lt_of_block h)).trans h
/-- What stands behind the systems, and behind the functions. -/
def bS (h : Nat) : List Value := [.slice (some ⟨h, 0, none⟩) 1 1, .slice none 0 0, .slice none 0 0, .slice none 0 0, .string ⟨#[]⟩, .int .i64 0, .int .i64 0, .slice none 0 0]
def BhS (W : World) (g n : Nat) : Prop := ∃ h cs, W.heap[g]? = some (.cells cs 60 (0, 0)) ∧ (∀ j, j < 8 → cs[n * 8 + j]? = (bS h)[j]?) ∧ W.heap[h]? = some (.cells #[.int .i64 77] 3 (0, 0))
def BhF (W : World) (g n : Nat) : Prop := ∃ cs, W.heap[g]? = some (.cells cs 28 (0, 0)) ∧ cs[n * 4]? = some (.string ⟨#[98, 101, 104, 105, 110, 100]⟩)
theorem BhS.kp {W W' : World} {g n e : Nat} (h : BhS W g n) (hk : KP e W W') (h1 : 60 ≠ e) (h2 : 3 ≠ e) : BhS W' g n := by
  obtain ⟨x, cs, a, b, c⟩ := h
  exact ⟨x, cs, hk _ _ _ h1 a, b, hk _ _ _ h2 c⟩
theorem BhF.kp {W W' : World} {g n e : Nat} (h : BhF W g n) (hk : KP e W W') (h1 : 28 ≠ e) : BhF W' g n := by
  obtain ⟨cs, a, b⟩ := h
  exact ⟨cs, hk _ _ _ h1 a, b⟩
theorem BhS.of {W : World} {N g c n x : Nat} {xs : List Value} (ho : W.ownsRow N 60 8 (.slice (some ⟨g, 0, none⟩) (n + 1) c) (n + 1) (xs ++ bS x)) (hx : xs.length = n * 8) (hb : W.heap[x]? = some (.cells #[.int .i64 77] 3 (0, 0))) : BhS W g n := by
  obtain ⟨cs, hg⟩ := own_blk2 ho (g := g) rfl
  refine ⟨x, cs, hg, fun j hj => ?_, hb⟩
  have := ho.cellAt (n * 8 + j) (by omega)
  rw [cell_of_row W _ _ _ 60 (0, 0) hg, List.getElem?_append_right (by omega), hx, show n * 8 + j - n * 8 = j by omega] at this
  exact this
theorem BhF.of {W : World} {N g c n : Nat} {xs ys : List Value} (ho : W.ownsRow N 28 4 (.slice (some ⟨g, 0, none⟩) (n + 1) c) (n + 1) (xs ++ (.string ⟨#[98, 101, 104, 105, 110, 100]⟩ :: ys))) (hx : xs.length = n * 4) : BhF W g n := by
  obtain ⟨cs, hg⟩ := own_blk2 ho (g := g) rfl
  refine ⟨cs, hg, ?_⟩
  have := ho.cellAt (n * 4) (by omega)
  rw [cell_of_row W _ _ _ 28 (0, 0) hg, List.getElem?_append_right (by omega), hx, Nat.sub_self] at this
  exact this
end Go.Proofs.YtklamaibinjcmaaDoor.Wd

/-
  Verify: the law's lent, of any size, its walk.
-/
namespace Go.Proofs.YtklamaibinjcmaaDoor.Wd
open Go.RowKit
set_option maxRecDepth 100000
def Small5 (s : Sy) : Prop := s.wi.length ≤ 18000000000000 ∧ s.wo.length ≤ 18000000000000 ∧ s.re.length ≤ 18000000000000 ∧ s.wr.length ≤ 18000000000000 ∧ s.run.code.length ≤ 8800000000000
theorem Lq.qc {N : Nat} {w W W' : World} {gp gr gq : Nat} {vp1 vp2 vs vf v : Value} {ls : List (Sy × Lv)} {lf : List (Rt × Value)} {B e t n : Nat} {xs : List Value} (h : Lq N w W gp gr gq vp1 vp2 vs vf ls lf) (ho : W.ownsRow B e t v n xs) (he : e ≠ 25) (hg : W.grownBy W' v.ownBlock) : W'.cell? ⟨gq, 0, none⟩ = some vs ∧ W'.cell? ⟨gq, 1, none⟩ = some vf ∧ W'.frozen? ⟨gq, 0, none⟩ = false ∧ W'.frozen? ⟨gq, 1, none⟩ = false := by
  have hq := (mv_grown hg).at h.q (notPg ho h.q he)
  refine ⟨?_, ?_, frozen_of_row W' gq _ _ 25 hq, frozen_of_row W' gq _ _ 25 hq⟩ <;> rw [cell_of_row W' _ _ _ 25 (0, 0) hq] <;> rfl
/-- The answer is told. -/
theorem Lq.told {N : Nat} {w W : World} {gp gr gq : Nat} {vp1 vp2 vs vf : Value} {ls : List (Sy × Lv)} {lf : List (Rt × Value)} (h : Lq N w W gp gr gq vp1 vp2 vs vf ls lf) : ((W.setCell ⟨gr, 0, none⟩ vs).setCell ⟨gr, 1, none⟩ vf).heap[gr]? = some (.cells #[vs, vf] 25 (0, 0)) ∧ LS N ((W.setCell ⟨gr, 0, none⟩ vs).setCell ⟨gr, 1, none⟩ vf) vs ls ∧ LF N ((W.setCell ⟨gr, 0, none⟩ vs).setCell ⟨gr, 1, none⟩ vf) vf lf ∧ Below w.heap.size w ((W.setCell ⟨gr, 0, none⟩ vs).setCell ⟨gr, 1, none⟩ vf) := by
  obtain ⟨n1, n2, n3, n4⟩ := h.n
  have k1 := heap_setCell_same W gr 0 _ 25 vs h.r
  have k2 := heap_setCell_same (W.setCell ⟨gr, 0, none⟩ vs) gr 1 _ 25 vf k1
  have m1 := mv_set W gr 0 vs
  have m2 := mv_set (W.setCell ⟨gr, 0, none⟩ vs) gr 1 vf
  have m := m1.trans m2 (fun _ _ e => e)
  have li : ∀ j, Li N W j → ¬ j = gr := fun j hj => hj.notb h.r (by decide) (by decide)
  refine ⟨by rw [k2]; rfl, h.s.mv m li ?_, h.f.mv m li ?_, ?_⟩
  · rintro j e rfl
    exact notPg h.s.row h.r (by decide) e
  · rintro j e rfl
    exact notPg h.f.row h.r (by decide) e
  · exact (h.b.setCell (by show _ ≤ gr; omega) vs).setCell (by show _ ≤ gr; omega) vf
/-- A routine that is copied. -/
structure Fp (N : Nat) (w0 W : World) (gs : Nat) (x : Value) (r : Rt) (d : Nat) : Prop where
  blk : W.heap[gs]? = some (.cells #[.string r.name, .int .i64 r.pa, .int .i64 r.lo, x] 28 (0, 0))
  bel : Below w0.heap.size w0 W
  ge : w0.heap.size ≤ gs
  a1 : 1 ≤ d → Ix (Li N W) W x r.code
section
variable {N : Nat} {w0 W w' : World} {gs : Nat} {x y : Value} {r : Rt} {d : Nat}
theorem Fp.cells (h : Fp N w0 W gs x r d) : W.cell? ⟨gs, 0, none⟩ = some (.string r.name) ∧ W.cell? ⟨gs, 1, none⟩ = some (.int .i64 r.pa) ∧ W.cell? ⟨gs, 2, none⟩ = some (.int .i64 r.lo) ∧ W.cell? ⟨gs, 3, none⟩ = some x := by
  refine ⟨?_, ?_, ?_, ?_⟩ <;> rw [cell_of_row W _ _ _ 28 (0, 0) h.blk] <;> rfl
theorem Fp.later (h : Fp N w0 W gs x r d) (hb : Below W.heap.size W w') : Fp N w0 w' gs x r d := ⟨(hb.block _ (lt_of_block h.blk)).trans h.blk, below_on h.bel hb, h.ge, fun e => (h.a1 e).li (Mv.of_below hb (fun _ => False)) (fun _ _ e => e)⟩
theorem Fp.next (h : Fp N w0 W gs x r 0) (hy : Ix (Li N W) W y r.code) : Fp N w0 (W.setCell ⟨gs, 3, none⟩ y) gs y r 1 :=
  ⟨by rw [heap_setCell_same W gs 3 _ 28 y h.blk]; rfl, h.bel.setCell h.ge y, h.ge, fun _ => hy.li (mv_set W gs 3 y) (fun j hj => hj.notb h.blk (by decide) (by decide))⟩
end
set_option maxHeartbeats 8000000 in
theorem lent_any {Q : Nat → Prop} {w : World} {ns cs nf cf : Nat} {sa fa : Option Addr} (sys : List Sy) (fns : List Rt) (hns : ns = sys.length) (hnf : nf = fns.length) (_hc1 : ns ≤ cs) (_hc2 : cs ≤ 9223372036854775807) (_hc3 : nf ≤ cf) (_hc4 : cf ≤ 9223372036854775807) (hS : Sys Q w (.slice sa ns cs) sys) (hF : Rts Q w (.slice fa nf cf) fns) (hn1 : ns ≤ 930000000000) (hn2 : nf ≤ 2600000000000) (hz1 : ∀ s ∈ sys, Small5 s) (hz2 : ∀ r ∈ fns, r.code.length ≤ 8800000000000) :
    Calls Tryd.prog 7 #[.agg #[.slice sa ns cs, .slice fa nf cf]] w fun e w' => ∃ gs gf c1 c2 ls lf, e = .returned (.agg #[.slice (some ⟨gs, 0, none⟩) ns c1, .slice (some ⟨gf, 0, none⟩) nf c2]) ∧ LS w.heap.size w' (.slice (some ⟨gs, 0, none⟩) ns c1) ls ∧ LF w.heap.size w' (.slice (some ⟨gf, 0, none⟩) nf c2) lf ∧ ls.map Prod.fst = sys ∧ lf.map Prod.fst = fns ∧ (BhS w' gs ns ∧ BhF w' gf nf ∧ ns + 1 ≤ c1 ∧ nf + 1 ≤ c2 ∧ c1 ≤ 9223372036854775807 ∧ c2 ≤ 9223372036854775807) ∧ Below w.heap.size w w' := by
  obtain ⟨iy, hiy, hy0, hy1, hy2⟩ := info_parts infoSys
  obtain ⟨iu, hiu, hu0, hu1, hu2⟩ := info_parts infoRou
  have HS := hide hS
  have HF := hide hF
  have HNS := hide hns
  have HNF := hide hnf
  have HZ1 := hide hz1
  have HZ2 := hide hz2
  obtain ⟨N, hN⟩ : ∃ x, x = w.heap.size := ⟨_, rfl⟩
  have HN := hide hN
  obtain ⟨w3, hw3⟩ : ∃ X, X = ((w.alloc (.cells #[.slice sa ns cs, .slice fa nf cf] 25)).alloc (.cells #[.slice none 0 0, .slice none 0 0] 25)).alloc (.cells #[.slice none 0 0, .slice none 0 0] 25) := ⟨_, rfl⟩
  obtain ⟨gp, hgp⟩ : ∃ x, x = w.heap.size := ⟨_, rfl⟩
  obtain ⟨gr, hgr⟩ : ∃ x, x = w.heap.size + 1 := ⟨_, rfl⟩
  obtain ⟨gq, hgq⟩ : ∃ x, x = w.heap.size + 1 + 1 := ⟨_, rfl⟩
  have L0 : Hid (Lq N w w3 gp gr gq (.slice sa ns cs) (.slice fa nf cf) (.slice none 0 0) (.slice none 0 0) [] []) := by
    have b1 := below_alloc w (.cells #[.slice sa ns cs, .slice fa nf cf] 25)
    have b2 := below_alloc (w.alloc (.cells #[.slice sa ns cs, .slice fa nf cf] 25)) (.cells #[.slice none 0 0, .slice none 0 0] 25)
    have b3 := below_alloc ((w.alloc (.cells #[.slice sa ns cs, .slice fa nf cf] 25)).alloc (.cells #[.slice none 0 0, .slice none 0 0] 25)) (.cells #[.slice none 0 0, .slice none 0 0] 25)
    have k1 := heap_alloc_new w (.cells #[.slice sa ns cs, .slice fa nf cf] 25)
    have k2 := heap_alloc_new (w.alloc (.cells #[.slice sa ns cs, .slice fa nf cf] 25)) (.cells #[.slice none 0 0, .slice none 0 0] 25)
    have k3 := heap_alloc_new ((w.alloc (.cells #[.slice sa ns cs, .slice fa nf cf] 25)).alloc (.cells #[.slice none 0 0, .slice none 0 0] 25)) (.cells #[.slice none 0 0, .slice none 0 0] 25)
    have e2 : gr = (w.alloc (.cells #[.slice sa ns cs, .slice fa nf cf] 25)).heap.size := by rw [hgr]; simp
    have e3 : gq = ((w.alloc (.cells #[.slice sa ns cs, .slice fa nf cf] 25)).alloc (.cells #[.slice none 0 0, .slice none 0 0] 25)).heap.size := by rw [hgq]; simp
    have b23 := below_on b2 b3
    rw [hw3]
    exact ⟨(b23.block gp (by rw [hgp]; exact lt_of_block k1)).trans (by rw [hgp]; exact k1), (b3.block gr (by rw [e2]; exact lt_of_block k2)).trans (by rw [e2]; exact k2), by rw [e3]; exact k3, LS.nil, LF.nil, below_on b1 b23, hN, by omega, by omega, by omega⟩
  obtain ⟨x0, x1, x2, x3⟩ := L0.out.cells
  clear hS hF hns hnf hz1 hz2 hN
  go_enter Tryd.func7, Tryd.ntmps7
  go_upto_region 2 with fail
  rw [← hw3, ← hgq, ← hgr, ← hgp]
  clear hw3 hgq hgr hgp
  go_wp2_with fail
  clear x0 x1 x2 x3
  go_loopw [4] (fun v4 W => ∃ (i : Nat) (vs : Value) (ls : List (Sy × Lv)), i ≤ ns ∧ v4 = .int .i64 (i : Int) ∧ Hid (ls.map Prod.fst = sys.take i) ∧ Hid (Lq N w W gp gr gq (.slice sa ns cs) (.slice fa nf cf) vs (.slice none 0 0) ls [])) (fun v4 _ => ns - (intOf v4).toNat)
  case atStart => exact ⟨0, _, [], Nat.zero_le _, rfl, rfl, L0⟩
  case round =>
    obtain ⟨i, vs, ls, hi, rfl, HL, HR⟩ := hrel
    clear L0
    obtain ⟨x0, x1, x2, x3⟩ := HR.out.cells
    by_cases hlt : i < ns
    · have t1 : (i : Int) < (ns : Int) := by omega
      have his : i < sys.length := by have := HNS.out; omega
      obtain ⟨g, o, rfl, -, hat⟩ := HS.out.nth his
      obtain ⟨a1, a2, a3, a4, a5, n1, n2, n3, n4, n5, k1, k2, k3, k4, k5, HV, y1, y2, y3, y4, y5, y6, y7, y8⟩ := hat.vs
      have hM := Mv.of_below HR.out.b (fun _ => False)
      have z1 := hM.cell y1 id
      have z2 := hM.cell y2 id
      have z3 := hM.cell y3 id
      have z4 := hM.cell y4 id
      have z5 := hM.cell y5 id
      have z6 := hM.cell y6 id
      have z7 := hM.cell y7 id
      have z8 := hM.cell y8 id
      have HVV := hide HV
      have HZ5 : Hid (Small5 sys[i]) := HZ1.out _ (List.getElem_mem his)
      have HT : Hid (sys.take (i + 1) = sys.take i ++ [sys[i]]) := List.take_succ_eq_append_getElem his
      clear hat HV hM y1 y2 y3 y4 y5 y6 y7 y8
      generalize sys[i] = s at *
      obtain ⟨wi, wo, re, wrt, nm, pa, lo, code⟩ := s
      dsimp only at z1 z2 z3 z4 z5 z6 z7 z8
      obtain ⟨W0, hW0⟩ : ∃ X, X = wr.alloc (.cells #[.slice a1 n1 k1, .slice a2 n2 k2, .slice a3 n3 k3, .slice a4 n4 k4, .string nm, .int .i64 pa, .int .i64 lo, .slice a5 n5 k5] 60) := ⟨_, rfl⟩
      obtain ⟨gs, hgs⟩ : ∃ x, x = wr.heap.size := ⟨_, rfl⟩
      have SP0 : Hid (Sp N wr W0 gs ⟨.slice a1 n1 k1, .slice a2 n2 k2, .slice a3 n3 k3, .slice a4 n4 k4, .slice a5 n5 k5⟩ ⟨wi, wo, re, wrt, ⟨nm, pa, lo, code⟩⟩ 0) := by
        rw [hW0]
        exact ⟨by rw [hgs]; exact heap_alloc_new wr _, below_alloc wr _, by omega, fun e => absurd e (by omega), fun e => absurd e (by omega), fun e => absurd e (by omega), fun e => absurd e (by omega), fun e => absurd e (by omega)⟩
      go_upto_region 6 with fail
      rw [← hW0, ← hgs]
      clear hW0 hgs z1 z2 z3 z4 z5 z6 z7 z8 x0 x1 x2 x3
      have HNW : Hid (N ≤ wr.heap.size) := by have h1 := HR.out.n.1; have h2 := HR.out.b.size; unfold Hid; omega
      have hzz := HZ5.out
      unfold Small5 at hzz
      dsimp only at hzz
      obtain ⟨hq1, hq2, hq3, hq4, hq5⟩ := hzz
      have hl1 : n1 = wi.length := nl_len HVV.out.w
      have J1 := hide (lsetW_any wi (HVV.out.w.later (below_on HR.out.b SP0.out.bel)) hl1 (by omega))
      obtain ⟨c0, c1, c2, c3, c4, c5, c6, c7⟩ := SP0.out.cells
      dsimp only at c0 c1 c2 c3 c4 c5 c6 c7
      clear hl1
      go_wp2_with fail
      refine J1.out.mono ?_
      rintro e w1 ⟨g1, d1, rfl, lk, nl, q1, q2, bb⟩
      have SA := hide (SP0.out.later bb)
      have SP1 := hide (SA.out.next1 (y := .slice (some ⟨g1, 0, none⟩) n1 d1) (nl.mono (fun j e => e ▸ Or.inl ⟨by have h1 := HNW.out; have h2 := SP0.out.bel.size; have h3 := lk.1; omega, lk.2⟩)))
      obtain ⟨W1, hW1⟩ : ∃ X, X = w1.setCell ⟨gs, 0, none⟩ (.slice (some ⟨g1, 0, none⟩) n1 d1) := ⟨_, rfl⟩
      rw [← hW1] at SP1
      clear c0 c1 c2 c3 c4 c5 c6 c7
      obtain ⟨c0, c1, c2, c3, c4, c5, c6, c7⟩ := SA.out.cells
      dsimp only at c0 c1 c2 c3 c4 c5 c6 c7
      have hfr := frozen_of_row w1 gs 0 _ 60 SA.out.blk
      clear lk nl bb J1
      go_upto_region 7 with fail
      rw [← hW1]
      clear hW1 c0 c1 c2 c3 c4 c5 c6 c7 hfr SA SP0
      have hl2 : n2 = wo.length := nl_len HVV.out.wo
      have J2 := hide (lsetW_any wo (HVV.out.wo.later (below_on HR.out.b SP1.out.bel)) hl2 (by omega))
      obtain ⟨c0, c1, c2, c3, c4, c5, c6, c7⟩ := SP1.out.cells
      dsimp only at c0 c1 c2 c3 c4 c5 c6 c7
      clear hl2
      go_wp2_with fail
      refine J2.out.mono ?_
      rintro e w2 ⟨g2, d2, rfl, lk, nl, q1, q2, bb⟩
      have SA := hide (SP1.out.later bb)
      have SP2 := hide (SA.out.next2 (y := .slice (some ⟨g2, 0, none⟩) n2 d2) (nl.mono (fun j e => e ▸ Or.inl ⟨by have h1 := HNW.out; have h2 := SP1.out.bel.size; have h3 := lk.1; omega, lk.2⟩)))
      obtain ⟨W2, hW2⟩ : ∃ X, X = w2.setCell ⟨gs, 1, none⟩ (.slice (some ⟨g2, 0, none⟩) n2 d2) := ⟨_, rfl⟩
      rw [← hW2] at SP2
      clear c0 c1 c2 c3 c4 c5 c6 c7
      obtain ⟨c0, c1, c2, c3, c4, c5, c6, c7⟩ := SA.out.cells
      dsimp only at c0 c1 c2 c3 c4 c5 c6 c7
      have hfr := frozen_of_row w2 gs 1 _ 60 SA.out.blk
      clear lk nl bb J2
      go_upto_region 8 with fail
      rw [← hW2]
      clear hW2 c0 c1 c2 c3 c4 c5 c6 c7 hfr SA SP1
      have hl3 : n3 = re.length := nl_len HVV.out.re
      have J3 := hide (lsetW_any re (HVV.out.re.later (below_on HR.out.b SP2.out.bel)) hl3 (by omega))
      obtain ⟨c0, c1, c2, c3, c4, c5, c6, c7⟩ := SP2.out.cells
      dsimp only at c0 c1 c2 c3 c4 c5 c6 c7
      clear hl3
      go_wp2_with fail
      refine J3.out.mono ?_
      rintro e w3 ⟨g3, d3, rfl, lk, nl, q1, q2, bb⟩
      have SA := hide (SP2.out.later bb)
      have SP3 := hide (SA.out.next3 (y := .slice (some ⟨g3, 0, none⟩) n3 d3) (nl.mono (fun j e => e ▸ Or.inl ⟨by have h1 := HNW.out; have h2 := SP2.out.bel.size; have h3 := lk.1; omega, lk.2⟩)))
      obtain ⟨W3, hW3⟩ : ∃ X, X = w3.setCell ⟨gs, 2, none⟩ (.slice (some ⟨g3, 0, none⟩) n3 d3) := ⟨_, rfl⟩
      rw [← hW3] at SP3
      clear c0 c1 c2 c3 c4 c5 c6 c7
      obtain ⟨c0, c1, c2, c3, c4, c5, c6, c7⟩ := SA.out.cells
      dsimp only at c0 c1 c2 c3 c4 c5 c6 c7
      have hfr := frozen_of_row w3 gs 2 _ 60 SA.out.blk
      clear lk nl bb J3
      go_upto_region 9 with fail
      rw [← hW3]
      clear hW3 c0 c1 c2 c3 c4 c5 c6 c7 hfr SA SP2
      have hl4 : n4 = wrt.length := nl_len HVV.out.wr
      have J4 := hide (lsetW_any wrt (HVV.out.wr.later (below_on HR.out.b SP3.out.bel)) hl4 (by omega))
      obtain ⟨c0, c1, c2, c3, c4, c5, c6, c7⟩ := SP3.out.cells
      dsimp only at c0 c1 c2 c3 c4 c5 c6 c7
      clear hl4
      go_wp2_with fail
      refine J4.out.mono ?_
      rintro e w4 ⟨g4, d4, rfl, lk, nl, q1, q2, bb⟩
      have SA := hide (SP3.out.later bb)
      have SP4 := hide (SA.out.next4 (y := .slice (some ⟨g4, 0, none⟩) n4 d4) (nl.mono (fun j e => e ▸ Or.inl ⟨by have h1 := HNW.out; have h2 := SP3.out.bel.size; have h3 := lk.1; omega, lk.2⟩)))
      obtain ⟨W4, hW4⟩ : ∃ X, X = w4.setCell ⟨gs, 3, none⟩ (.slice (some ⟨g4, 0, none⟩) n4 d4) := ⟨_, rfl⟩
      rw [← hW4] at SP4
      clear c0 c1 c2 c3 c4 c5 c6 c7
      obtain ⟨c0, c1, c2, c3, c4, c5, c6, c7⟩ := SA.out.cells
      dsimp only at c0 c1 c2 c3 c4 c5 c6 c7
      have hfr := frozen_of_row w4 gs 3 _ 60 SA.out.blk
      clear lk nl bb J4
      go_upto_region 10 with fail
      rw [← hW4]
      clear hW4 c0 c1 c2 c3 c4 c5 c6 c7 hfr SA SP3
      have hl5 : n5 = code.length := il_len HVV.out.co
      have J5 := hide (lrowW_any code (HVV.out.co.later (below_on HR.out.b SP4.out.bel)) hl5 (by omega))
      obtain ⟨c0, c1, c2, c3, c4, c5, c6, c7⟩ := SP4.out.cells
      dsimp only at c0 c1 c2 c3 c4 c5 c6 c7
      clear hl5
      go_wp2_with fail
      refine J5.out.mono ?_
      rintro e w5 ⟨g5, d5, rfl, lk, nl, q1, q2, bb⟩
      have SA := hide (SP4.out.later bb)
      have SP5 := hide (SA.out.next5 (y := .slice (some ⟨g5, 0, none⟩) n5 d5) (nl.mono (fun j e => e ▸ Or.inr ⟨by have h1 := HNW.out; have h2 := SP4.out.bel.size; have h3 := lk.1; omega, lk.2⟩)))
      obtain ⟨W5, hW5⟩ : ∃ X, X = w5.setCell ⟨gs, 7, none⟩ (.slice (some ⟨g5, 0, none⟩) n5 d5) := ⟨_, rfl⟩
      rw [← hW5] at SP5
      clear c0 c1 c2 c3 c4 c5 c6 c7
      obtain ⟨c0, c1, c2, c3, c4, c5, c6, c7⟩ := SA.out.cells
      dsimp only at c0 c1 c2 c3 c4 c5 c6 c7
      have hfr := frozen_of_row w5 gs 7 _ 60 SA.out.blk
      clear lk nl bb J5
      go_upto_region 11 with fail
      rw [← hW5]
      clear hW5 c0 c1 c2 c3 c4 c5 c6 c7 hfr SA SP4
      have HR5 := hide (HR.out.later SP5.out.bel)
      obtain ⟨c0, c1, c2, c3, c4, c5, c6, c7⟩ := SP5.out.cells
      dsimp only at c0 c1 c2 c3 c4 c5 c6 c7
      obtain ⟨-, -, x2, -⟩ := HR5.out.cells
      have hll : ls.length = i := by
        have := congrArg List.length HL.out
        rw [List.length_map, List.length_take] at this
        omega
      have HLL := hide hll
      obtain ⟨av, cv, hvs⟩ := own_len HR5.out.s.row
      rw [hll] at hvs
      subst hvs
      obtain ⟨W6, hW6⟩ : ∃ X, X = W5.alloc (.cells #[.slice (some ⟨g1, 0, none⟩) n1 d1, .slice (some ⟨g2, 0, none⟩) n2 d2, .slice (some ⟨g3, 0, none⟩) n3 d3, .slice (some ⟨g4, 0, none⟩) n4 d4, .string nm, .int .i64 pa, .int .i64 lo, .slice (some ⟨g5, 0, none⟩) n5 d5] 60) := ⟨_, rfl⟩
      have B6 : Hid (Below W5.heap.size W5 W6) := by unfold Hid; rw [hW6]; exact below_alloc W5 _
      have HR6 := hide (HR5.out.later B6.out)
      have SY6 : Hid (SyL N W6 (⟨wi, wo, re, wrt, ⟨nm, pa, lo, code⟩⟩, ⟨.slice (some ⟨g1, 0, none⟩) n1 d1, .slice (some ⟨g2, 0, none⟩) n2 d2, .slice (some ⟨g3, 0, none⟩) n3 d3, .slice (some ⟨g4, 0, none⟩) n4 d4, .slice (some ⟨g5, 0, none⟩) n5 d5⟩)) := (SP5.out.later B6.out).done HVV.out.pa HVV.out.lo
      have HC6 : Hid (∀ j u, (lvC (⟨wi, wo, re, wrt, ⟨nm, pa, lo, code⟩⟩, ⟨.slice (some ⟨g1, 0, none⟩) n1 d1, .slice (some ⟨g2, 0, none⟩) n2 d2, .slice (some ⟨g3, 0, none⟩) n3 d3, .slice (some ⟨g4, 0, none⟩) n4 d4, .slice (some ⟨g5, 0, none⟩) n5 d5⟩))[j]? = some u → W6.cell? ((⟨W5.heap.size, 0, none⟩ : Addr).add j) = some u) := by unfold Hid; rw [hW6]; exact cells_new W5 #[.slice (some ⟨g1, 0, none⟩) n1 d1, .slice (some ⟨g2, 0, none⟩) n2 d2, .slice (some ⟨g3, 0, none⟩) n3 d3, .slice (some ⟨g4, 0, none⟩) n4 d4, .string nm, .int .i64 pa, .int .i64 lo, .slice (some ⟨g5, 0, none⟩) n5 d5] 60
      have OW6 : Hid (W6.ownsRow N 60 8 (.slice av i cv) i (fl lvC ls)) := by have := HR6.out.s.row; rw [HLL.out] at this; exact this
      have BN : Hid (N ≤ W6.heap.size) := by have h1 := HR6.out.n.1; have h2 := HR6.out.b.size; unfold Hid; omega
      clear hll HR HR5 SP5
      go_wp2_with (at_builtin; rw [← hW6]; refine wpList_append_own_wide _ rfl _ _ 22 rfl N 60 iy (.agg #[.slice none 0 0, .slice none 0 0, .slice none 0 0, .slice none 0 0, .string ⟨#[]⟩, .int .i64 0, .int .i64 0, .slice none 0 0]) 8 152 Tryd.underlying22 hiy hy0 hy1 hy2 rfl (by decide) _ i (fl lvC ls) rfl OW6.out ⟨W5.heap.size, 0, none⟩ 1 1 (lvC (⟨wi, wo, re, wrt, ⟨nm, pa, lo, code⟩⟩, ⟨.slice (some ⟨g1, 0, none⟩) n1 d1, .slice (some ⟨g2, 0, none⟩) n2 d2, .slice (some ⟨g3, 0, none⟩) n3 d3, .slice (some ⟨g4, 0, none⟩) n4 d4, .slice (some ⟨g5, 0, none⟩) n5 d5⟩)) rfl rfl HC6.out SY6.out.one ?s3 ?s4 BN.out ?_)
      case s3 => unfold maxLen; omega
      case s4 => omega
      intro v7 w7 o7 g7 _
      rw [← hW6] at g7
      have LS7 : Hid (LS N w7 v7 (ls ++ ([(⟨wi, wo, re, wrt, ⟨nm, pa, lo, code⟩⟩, ⟨.slice (some ⟨g1, 0, none⟩) n1 d1, .slice (some ⟨g2, 0, none⟩) n2 d2, .slice (some ⟨g3, 0, none⟩) n3 d3, .slice (some ⟨g4, 0, none⟩) n4 d4, .slice (some ⟨g5, 0, none⟩) n5 d5⟩)] : List (Sy × Lv)))) := HR6.out.s.push SY6.out (by rw [HLL.out]; exact o7) g7
      have LQ7 := hide (HR6.out.putS g7 LS7.out)
      obtain ⟨f0, f1, f2, f3⟩ := HR6.out.qc OW6.out (by decide) g7
      have HMP : Hid ((ls ++ ([(⟨wi, wo, re, wrt, ⟨nm, pa, lo, code⟩⟩, ⟨.slice (some ⟨g1, 0, none⟩) n1 d1, .slice (some ⟨g2, 0, none⟩) n2 d2, .slice (some ⟨g3, 0, none⟩) n3 d3, .slice (some ⟨g4, 0, none⟩) n4 d4, .slice (some ⟨g5, 0, none⟩) n5 d5⟩)] : List (Sy × Lv))).map Prod.fst = sys.take (i + 1)) := by unfold Hid; rw [HT.out, List.map_append, HL.out]; rfl
      obtain ⟨a7, c7', hv7⟩ := own_len o7
      subst hv7
      clear o7 g7 LS7 HR6 SY6 HC6 OW6 BN B6 hW6 x2 c0 c1 c2 c3 c4 c5 c6 c7
      go_wp2_with fail
      go_roundw
      case rel => exact ⟨i + 1, _, _, by omega, by go_num, HMP, LQ7⟩
      case measure => simp [intOf]; omega
    · have t1 : ¬ (i : Int) < (ns : Int) := by omega
      have HLS : Hid (ls.map Prod.fst = sys) := by
        unfold Hid
        rw [HL.out, List.take_of_length_le (by have := HNS.out; omega)]
      have LQ0 := HR
      clear HR HL
      go_wp2_with fail
      clear t1 x0 x1 x2 x3
      go_loopw [6] (fun v6 W => ∃ (j : Nat) (vf : Value) (lf : List (Rt × Value)), j ≤ nf ∧ v6 = .int .i64 (j : Int) ∧ Hid (lf.map Prod.fst = fns.take j) ∧ Hid (Lq N w W gp gr gq (.slice sa ns cs) (.slice fa nf cf) vs vf ls lf)) (fun v6 _ => nf - (intOf v6).toNat)
      case atStart => exact ⟨0, _, [], Nat.zero_le _, rfl, rfl, LQ0⟩
      case round =>
        obtain ⟨j, vf, lf, hj, rfl, HL, HR⟩ := hrel
        clear LQ0
        obtain ⟨x0, x1, x2, x3⟩ := HR.out.cells
        by_cases hltj : j < nf
        · have t1 : (j : Int) < (nf : Int) := by omega
          have hjs : j < fns.length := by have := HNF.out; omega
          obtain ⟨g, o, rfl, -, i1, i2, vc, y1, y2, y3, y4, y5⟩ := HF.out.nth hjs
          have hM := Mv.of_below HR.out.b (fun _ => False)
          have z1 := hM.cell y1 id
          have z2 := hM.cell y2 id
          have z3 := hM.cell y3 id
          have z4 := hM.cell y4 id
          have HCO := hide y5
          have HI1 := hide i1
          have HI2 := hide i2
          have HZ5 : Hid (fns[j].code.length ≤ 8800000000000) := HZ2.out _ (List.getElem_mem hjs)
          have HT : Hid (fns.take (j + 1) = fns.take j ++ [fns[j]]) := List.take_succ_eq_append_getElem hjs
          clear hM y1 y2 y3 y4 y5 i1 i2
          generalize fns[j] = s at *
          obtain ⟨nm, pa, lo, code⟩ := s
          dsimp only at z1 z2 z3 z4 HCO HI1 HI2 HZ5
          obtain ⟨a5, c5, rfl, k1, k2⟩ := HCO.out.at
          obtain ⟨n5, hn5⟩ : ∃ n, n = code.length := ⟨_, rfl⟩
          rw [← hn5] at z4 HCO HZ5 k1
          have hq5 := HZ5.out
          have HN5 := hide hn5
          clear hn5
          obtain ⟨W0, hW0⟩ : ∃ X, X = wr.alloc (.cells #[.string nm, .int .i64 pa, .int .i64 lo, .slice a5 n5 c5] 28) := ⟨_, rfl⟩
          obtain ⟨gs, hgs⟩ : ∃ x, x = wr.heap.size := ⟨_, rfl⟩
          have SP0 : Hid (Fp N wr W0 gs (.slice a5 n5 c5) ⟨nm, pa, lo, code⟩ 0) := by
            rw [hW0]
            exact ⟨by rw [hgs]; exact heap_alloc_new wr _, below_alloc wr _, by omega, fun e => absurd e (by omega)⟩
          go_upto_region 16 with fail
          rw [← hW0, ← hgs]
          clear hW0 hgs z1 z2 z3 z4 x0 x1 x2 x3
          have HNW : Hid (N ≤ wr.heap.size) := by have h1 := HR.out.n.1; have h2 := HR.out.b.size; unfold Hid; omega
          have J5 := hide (lrowW_any code (HCO.out.later (below_on HR.out.b SP0.out.bel)) HN5.out (by omega))
          obtain ⟨c0, c1, c2, c3⟩ := SP0.out.cells
          dsimp only at c0 c1 c2 c3
          go_wp2_with fail
          refine J5.out.mono ?_
          rintro e w5 ⟨g5, d5, rfl, lk, nl, q1, q2, bb⟩
          have SA := hide (SP0.out.later bb)
          have SP1 := hide (SA.out.next (y := .slice (some ⟨g5, 0, none⟩) n5 d5) (nl.mono (fun j e => e ▸ Or.inr ⟨by have h1 := HNW.out; have h2 := SP0.out.bel.size; have h3 := lk.1; omega, lk.2⟩)))
          obtain ⟨W5, hW5⟩ : ∃ X, X = w5.setCell ⟨gs, 3, none⟩ (.slice (some ⟨g5, 0, none⟩) n5 d5) := ⟨_, rfl⟩
          rw [← hW5] at SP1
          clear c0 c1 c2 c3
          obtain ⟨c0, c1, c2, c3⟩ := SA.out.cells
          dsimp only at c0 c1 c2 c3
          have hfr := frozen_of_row w5 gs 3 _ 28 SA.out.blk
          clear lk nl bb J5
          go_upto_region 17 with fail
          rw [← hW5]
          clear hW5 c0 c1 c2 c3 hfr SA SP0
          have HR5 := hide (HR.out.later SP1.out.bel)
          obtain ⟨c0, c1, c2, c3⟩ := SP1.out.cells
          dsimp only at c0 c1 c2 c3
          obtain ⟨-, -, -, x3⟩ := HR5.out.cells
          have hll : lf.length = j := by
            have := congrArg List.length HL.out
            rw [List.length_map, List.length_take] at this
            omega
          have HLL := hide hll
          obtain ⟨av, cv, hvs⟩ := own_len HR5.out.f.row
          rw [hll] at hvs
          subst hvs
          obtain ⟨W6, hW6⟩ : ∃ X, X = W5.alloc (.cells #[.string nm, .int .i64 pa, .int .i64 lo, .slice (some ⟨g5, 0, none⟩) n5 d5] 28) := ⟨_, rfl⟩
          have B6 : Hid (Below W5.heap.size W5 W6) := by unfold Hid; rw [hW6]; exact below_alloc W5 _
          have HR6 := hide (HR5.out.later B6.out)
          have SY6 : Hid (RtL N W6 (⟨nm, pa, lo, code⟩, .slice (some ⟨g5, 0, none⟩) n5 d5)) := ⟨HI1.out, HI2.out, (SP1.out.later B6.out).a1 (by omega)⟩
          have HC6 : Hid (∀ j u, (rwC (⟨nm, pa, lo, code⟩, .slice (some ⟨g5, 0, none⟩) n5 d5))[j]? = some u → W6.cell? ((⟨W5.heap.size, 0, none⟩ : Addr).add j) = some u) := by unfold Hid; rw [hW6]; exact cells_new W5 #[.string nm, .int .i64 pa, .int .i64 lo, .slice (some ⟨g5, 0, none⟩) n5 d5] 28
          have OW6 : Hid (W6.ownsRow N 28 4 (.slice av j cv) j (fl rwC lf)) := by have := HR6.out.f.row; rw [HLL.out] at this; exact this
          have BN : Hid (N ≤ W6.heap.size) := by have h1 := HR6.out.n.1; have h2 := HR6.out.b.size; unfold Hid; omega
          clear hll HR HR5 SP1
          go_wp2_with (at_builtin; rw [← hW6]; refine wpList_append_own_wide _ rfl _ _ 23 rfl N 28 iu (.agg #[.string ⟨#[]⟩, .int .i64 0, .int .i64 0, .slice none 0 0]) 4 56 Tryd.underlying23 hiu hu0 hu1 hu2 rfl (by decide) _ j (fl rwC lf) rfl OW6.out ⟨W5.heap.size, 0, none⟩ 1 1 (rwC (⟨nm, pa, lo, code⟩, .slice (some ⟨g5, 0, none⟩) n5 d5)) rfl rfl HC6.out SY6.out.one ?s3 ?s4 BN.out ?_)
          case s3 => unfold maxLen; omega
          case s4 => omega
          intro v7 w7 o7 g7 _
          rw [← hW6] at g7
          have LF7 : Hid (LF N w7 v7 (lf ++ ([(⟨nm, pa, lo, code⟩, .slice (some ⟨g5, 0, none⟩) n5 d5)] : List (Rt × Value)))) := HR6.out.f.push SY6.out (by rw [HLL.out]; exact o7) g7
          have LQ7 := hide (HR6.out.putF g7 LF7.out)
          obtain ⟨f0, f1, f2, f3⟩ := HR6.out.qc OW6.out (by decide) g7
          have HMP : Hid ((lf ++ ([(⟨nm, pa, lo, code⟩, .slice (some ⟨g5, 0, none⟩) n5 d5)] : List (Rt × Value))).map Prod.fst = fns.take (j + 1)) := by unfold Hid; rw [HT.out, List.map_append, HL.out]; rfl
          obtain ⟨a7, c7', hv7⟩ := own_len o7
          subst hv7
          clear o7 g7 LF7 HR6 SY6 HC6 OW6 BN B6 hW6 x3 c0 c1 c2 c3
          go_wp2_with fail
          go_roundw
          case rel => exact ⟨j + 1, _, _, by omega, by go_num, HMP, LQ7⟩
          case measure => simp [intOf]; omega
        · have t1 : ¬ (j : Int) < (nf : Int) := by omega
          have HLF : Hid (lf.map Prod.fst = fns) := by
            unfold Hid
            rw [HL.out, List.take_of_length_le (by have := HNF.out; omega)]
          have hls : ls.length = ns := by have := congrArg List.length HLS.out; rw [List.length_map] at this; have := HNS.out; omega
          have hlf : lf.length = nf := by have := congrArg List.length HLF.out; rw [List.length_map] at this; have := HNF.out; omega
          have HLL := hide hls
          have HLM := hide hlf
          obtain ⟨av, cv, hvs⟩ := own_len HR.out.s.row
          obtain ⟨af, cg, hvf⟩ := own_len HR.out.f.row
          rw [hls] at hvs
          rw [hlf] at hvf
          subst hvs hvf
          obtain ⟨p1, p2⟩ : ns ≤ cv ∧ cv ≤ 9223372036854775807 := by have := HR.out.s.row; rw [hls] at this; exact own_cap this
          obtain ⟨p3, p4⟩ : nf ≤ cg ∧ cg ≤ 9223372036854775807 := by have := HR.out.f.row; rw [hlf] at this; exact own_cap this
          clear hls hlf HL
          obtain ⟨W6, hW6⟩ : ∃ X, X = (wr.alloc (.cells #[.int .i64 77] 3)).alloc (.cells #[.slice (some ⟨wr.heap.size, 0, none⟩) 1 1, .slice none 0 0, .slice none 0 0, .slice none 0 0, .string ⟨#[]⟩, .int .i64 0, .int .i64 0, .slice none 0 0] 60) := ⟨_, rfl⟩
          have B6 : Hid (Below wr.heap.size wr W6) := by unfold Hid; rw [hW6]; exact below_on (below_alloc wr _) (below_alloc _ _)
          have HR6 := hide (HR.out.later B6.out)
          have HC6 : Hid (∀ j u, [.slice (some ⟨wr.heap.size, 0, none⟩) 1 1, .slice none 0 0, .slice none 0 0, .slice none 0 0, Value.string ⟨#[]⟩, .int .i64 0, .int .i64 0, .slice none 0 0][j]? = some u → W6.cell? ((⟨wr.heap.size + 1, 0, none⟩ : Addr).add j) = some u) := by
            unfold Hid
            rw [hW6]
            have := cells_new (wr.alloc (.cells #[.int .i64 77] 3)) #[.slice (some ⟨wr.heap.size, 0, none⟩) 1 1, .slice none 0 0, .slice none 0 0, .slice none 0 0, .string ⟨#[]⟩, .int .i64 0, .int .i64 0, .slice none 0 0] 60
            rw [show (wr.alloc (.cells #[.int .i64 77] 3)).heap.size = wr.heap.size + 1 by simp] at this
            exact this
          have OW6 : Hid (W6.ownsRow N 60 8 (.slice av ns cv) ns (fl lvC ls)) := by have := HR6.out.s.row; rw [HLL.out] at this; exact this
          have BN : Hid (N ≤ W6.heap.size) := by have h1 := HR6.out.n.1; have h2 := HR6.out.b.size; unfold Hid; omega
          clear HR
          go_wp2_with (at_builtin; rw [← hW6]; refine wpList_append_own_wide _ rfl _ _ 22 rfl N 60 iy (.agg #[.slice none 0 0, .slice none 0 0, .slice none 0 0, .slice none 0 0, .string ⟨#[]⟩, .int .i64 0, .int .i64 0, .slice none 0 0]) 8 152 Tryd.underlying22 hiy hy0 hy1 hy2 rfl (by decide) _ ns (fl lvC ls) rfl OW6.out ⟨wr.heap.size + 1, 0, none⟩ 1 1 [.slice (some ⟨wr.heap.size, 0, none⟩) 1 1, .slice none 0 0, .slice none 0 0, .slice none 0 0, .string ⟨#[]⟩, .int .i64 0, .int .i64 0, .slice none 0 0] rfl rfl HC6.out (one8 _) ?s3 ?s4 BN.out ?_)
          case s3 => unfold maxLen; omega
          case s4 => omega
          intro v7 w7 o7 g7 _
          rw [← hW6] at g7
          obtain ⟨gs, c7, rfl, p5, p6⟩ := own_form o7 (by omega)
          have LS7 : Hid (LS N w7 (.slice (some ⟨gs, 0, none⟩) ns c7) ls) := HR6.out.s.cut (by rw [HLL.out]; exact o7) g7 HLL.out.symm
          have LQ7 := hide (HR6.out.putS g7 LS7.out)
          obtain ⟨f0, f1, f2, f3⟩ := HR6.out.qc OW6.out (by decide) g7
          have K77 : W6.heap[wr.heap.size]? = some (.cells #[.int .i64 77] 3 (0, 0)) := by
            rw [hW6]
            exact ((below_alloc (wr.alloc (.cells #[.int .i64 77] 3)) _).block wr.heap.size (by simp)).trans (heap_alloc_new wr _)
          have BS7 : Hid (BhS w7 gs ns) := BhS.of o7 (by rw [fl_len lvC_len, HLL.out]) (KP.grown OW6.out g7 _ _ _ (by decide) K77)
          have HQ7 : w7.heap[gq]? = some (.cells #[.slice av ns cv, .slice af nf cg] 25 (0, 0)) := KP.grown OW6.out g7 _ _ _ (by decide) HR6.out.q
          have BS8 : Hid (BhS (w7.setCell ⟨gq, 0, none⟩ (.slice (some ⟨gs, 0, none⟩) ns c7)) gs ns) := BS7.out.kp (KP.set HQ7) (by decide) (by decide)
          obtain ⟨pp1, pp2⟩ := own_cap o7
          have HCP7 : Hid (ns + 1 ≤ c7 ∧ c7 ≤ 9223372036854775807) := ⟨pp1, pp2⟩
          have t2 : (ns : Int) ≤ c7 := by omega
          obtain ⟨W8, hW8⟩ : ∃ X, X = w7.setCell ⟨gq, 0, none⟩ (.slice (some ⟨gs, 0, none⟩) ns c7) := ⟨_, rfl⟩
          rw [← hW8] at LQ7 BS8
          clear K77 BS7 HQ7 pp1 pp2
          clear o7 g7 LS7 HR6 HC6 OW6 BN B6 hW6 x0 x1 x2 x3
          go_upto_region 21 with fail
          rw [← hW8]
          clear hW8 f0 f1 f2 f3 t2
          obtain ⟨W9, hW9⟩ : ∃ X, X = W8.alloc (.cells #[.string ⟨#[98, 101, 104, 105, 110, 100]⟩, .int .i64 0, .int .i64 0, .slice none 0 0] 28) := ⟨_, rfl⟩
          have B9 : Hid (Below W8.heap.size W8 W9) := by unfold Hid; rw [hW9]; exact below_alloc W8 _
          have HR9 := hide (LQ7.out.later B9.out)
          have HC9 : Hid (∀ j u, [Value.string ⟨#[98, 101, 104, 105, 110, 100]⟩, .int .i64 0, .int .i64 0, .slice none 0 0][j]? = some u → W9.cell? ((⟨W8.heap.size, 0, none⟩ : Addr).add j) = some u) := by
            unfold Hid
            rw [hW9]
            exact cells_new W8 #[.string ⟨#[98, 101, 104, 105, 110, 100]⟩, .int .i64 0, .int .i64 0, .slice none 0 0] 28
          have OW9 : Hid (W9.ownsRow N 28 4 (.slice af nf cg) nf (fl rwC lf)) := by have := HR9.out.f.row; rw [HLM.out] at this; exact this
          have BN : Hid (N ≤ W9.heap.size) := by have h1 := HR9.out.n.1; have h2 := HR9.out.b.size; unfold Hid; omega
          obtain ⟨x0, x1, x2, x3⟩ := LQ7.out.cells
          clear LQ7
          go_wp2_with (at_builtin; rw [← hW9]; refine wpList_append_own_wide _ rfl _ _ 23 rfl N 28 iu (.agg #[.string ⟨#[]⟩, .int .i64 0, .int .i64 0, .slice none 0 0]) 4 56 Tryd.underlying23 hiu hu0 hu1 hu2 rfl (by decide) _ nf (fl rwC lf) rfl OW9.out ⟨W8.heap.size, 0, none⟩ 1 1 [.string ⟨#[98, 101, 104, 105, 110, 100]⟩, .int .i64 0, .int .i64 0, .slice none 0 0] rfl rfl HC9.out (one4 _) ?s3 ?s4 BN.out ?_)
          case s3 => unfold maxLen; omega
          case s4 => omega
          intro v10 w10 o10 g10 _
          rw [← hW9] at g10
          obtain ⟨gf, c10, rfl, p7, p8⟩ := own_form o10 (by omega)
          have LF10 : Hid (LF N w10 (.slice (some ⟨gf, 0, none⟩) nf c10) lf) := HR9.out.f.cut (by rw [HLM.out]; exact o10) g10 HLM.out.symm
          have LQ10 := hide (HR9.out.putF g10 LF10.out)
          obtain ⟨f0, f1, f2, f3⟩ := HR9.out.qc OW9.out (by decide) g10
          have BF10 : Hid (BhF w10 gf nf) := BhF.of o10 (by rw [fl_len rwC_len, HLM.out])
          have BS10 : Hid (BhS w10 gs ns) := (BS8.out.kp (KP.below (e := 25) B9.out) (by decide) (by decide)).kp (KP.grown OW9.out g10) (by decide) (by decide)
          have HQ10 := KP.grown OW9.out g10 _ _ _ (by decide) HR9.out.q
          have BF11 : Hid (BhF (w10.setCell ⟨gq, 1, none⟩ (.slice (some ⟨gf, 0, none⟩) nf c10)) gf nf) := BF10.out.kp (KP.set HQ10) (by decide)
          have BS11 : Hid (BhS (w10.setCell ⟨gq, 1, none⟩ (.slice (some ⟨gf, 0, none⟩) nf c10)) gs ns) := BS10.out.kp (KP.set HQ10) (by decide) (by decide)
          obtain ⟨pp1, pp2⟩ := own_cap o10
          have HCP10 : Hid (nf + 1 ≤ c10 ∧ c10 ≤ 9223372036854775807) := ⟨pp1, pp2⟩
          have t3 : (nf : Int) ≤ c10 := by omega
          obtain ⟨W11, hW11⟩ : ∃ X, X = w10.setCell ⟨gq, 1, none⟩ (.slice (some ⟨gf, 0, none⟩) nf c10) := ⟨_, rfl⟩
          rw [← hW11] at LQ10 BF11 BS11
          clear BF10 BS10 HQ10 pp1 pp2 BS8
          clear o10 g10 LF10 HR9 HC9 OW9 BN B9 hW9 x0 x1 x2 x3
          go_upto_region 22 with fail
          rw [← hW11]
          clear hW11 f0 f1 f2 f3 t3
          obtain ⟨x0, x1, x2, x3⟩ := LQ10.out.cells
          have r0 : W11.cell? ⟨gr, 0, none⟩ = some (.slice none 0 0) := by rw [cell_of_row W11 _ _ _ 25 (0, 0) LQ10.out.r]; rfl
          have r1 : W11.cell? ⟨gr, 1, none⟩ = some (.slice none 0 0) := by rw [cell_of_row W11 _ _ _ 25 (0, 0) LQ10.out.r]; rfl
          have r2 := frozen_of_row W11 gr 0 _ 25 LQ10.out.r
          have r3 := frozen_of_row W11 gr 1 _ 25 LQ10.out.r
          go_wp2_with fail
          obtain ⟨m1, m2, m3, m4⟩ := LQ10.out.told
          have k1 : KP 25 W11 (W11.setCell ⟨gr, 0, none⟩ (.slice (some ⟨gs, 0, none⟩) ns c7)) := KP.set LQ10.out.r
          have kr := heap_setCell_same W11 gr 0 _ 25 (.slice (some ⟨gs, 0, none⟩) ns c7) LQ10.out.r
          have k2 : KP 25 _ ((W11.setCell ⟨gr, 0, none⟩ (.slice (some ⟨gs, 0, none⟩) ns c7)).setCell ⟨gr, 1, none⟩ (.slice (some ⟨gf, 0, none⟩) nf c10)) := KP.set kr
          have m5 := (BS11.out.kp k1 (by decide) (by decide)).kp k2 (by decide) (by decide)
          have m6 := (BF11.out.kp k1 (by decide)).kp k2 (by decide)
          rw [HN.out] at m2 m3
          exact bodyPost_ret (res_pg1 rfl rfl m1) rfl ⟨_, _, _, _, _, _, rfl, m2, m3, HLS.out, HLF.out, ⟨m5, m6, HCP7.out.1, HCP10.out.1, HCP7.out.2, HCP10.out.2⟩, m4⟩
end Go.Proofs.YtklamaibinjcmaaDoor.Wd

/-
  Verify: the law's same, sameSet, sameRow, where they are the same.
-/
namespace Go.Proofs.YtklamaibinjcmaaDoor
open Go.RowKit
set_option maxRecDepth 100000
theorem bel_dn {B : Nat} {a w : World} (h : Below B a w) (n : Nat) : Below B a (w.drewN n) := h.trans ⟨rfl, rfl, rfl, Nat.le_refl _, fun _ _ => rfl⟩
set_option maxHeartbeats 4000000 in
theorem lsame_any {Q Q' : Nat → Prop} {w : World} {va vb : Value} {l : List Int} (ha : Nl Q w va l) (hb : Nl Q' w vb l) : Calls Tryd.prog 14 #[va, vb] w fun e w' => e = .returned (.bool true) ∧ Below w.heap.size w w' := by
  have HA := hide ha
  have HB := hide hb
  obtain ⟨aa, ca, rfl, a1, a2⟩ := ha.at
  obtain ⟨ab, cb, rfl, b1, b2⟩ := hb.at
  obtain ⟨n, hn⟩ : ∃ n, n = l.length := ⟨_, rfl⟩
  rw [← hn] at HA HB a1 b1 ⊢
  have HN := hide hn
  clear ha hb hn
  go_enter Tryd.func14, Tryd.ntmps14
  go_wp2_with fail
  go_loopw [5] (fun v5 W => ∃ i : Nat, i ≤ n ∧ v5 = .int .i64 (i : Int) ∧ Hid (Below w.heap.size w W)) (fun v5 _ => n - (intOf v5).toNat)
  case atStart => exact ⟨0, Nat.zero_le _, rfl, Below.refl _ _⟩
  case round =>
    obtain ⟨i, hi, rfl, HW⟩ := hrel
    by_cases hlt : i < n
    · have hii : (i : Int) < (n : Int) := by omega
      have hil : i < l.length := by have := HN.out; omega
      obtain ⟨g, o, e1, -, z1, -⟩ := (HA.out.later HW.out).nth hil
      subst e1
      obtain ⟨g', o', e1, -, z2, -⟩ := (HB.out.later HW.out).nth hil
      subst e1
      obtain ⟨x, hx⟩ : ∃ x, x = l[i] := ⟨_, rfl⟩
      rw [← hx] at z1 z2
      have tx : ((x : Int) != x) = false := by simp
      clear hx
      go_upto_region 6 with fail
      have S0 : Hid (wr.drew.cell? ⟨g, o + i, none⟩ = some (.int .i64 x) ∧ wr.drew.cell? ⟨g', o' + i, none⟩ = some (.int .i64 x)) := ⟨z1, z2⟩
      clear z1 z2
      go_region_held3 (fun V => V.cell? ⟨g, o + i, none⟩ = some (.int .i64 x) ∧ V.cell? ⟨g', o' + i, none⟩ = some (.int .i64 x)) (exact S0.out) (fail)
      have HW2 := hide (below_on HW.out (below_drew wr))
      go_wp2_with fail
      go_roundw
      case rel => exact ⟨i + 1, by omega, by go_num, HW2⟩
      case measure => simp [intOf]; omega
    · have hii : ¬ (i : Int) < (n : Int) := by omega
      go_wp2_with fail
      go_ret
      exact ⟨rfl, HW.out⟩
set_option maxHeartbeats 4000000 in
theorem lsameset_any {Q Q' : Nat → Prop} {w : World} {va vb : Value} {l : List Int} (ha : Nx Q w va l) (hb : Nl Q' w vb l) : Calls Tryd.prog 25 #[va, vb] w fun e w' => e = .returned (.bool true) ∧ Below w.heap.size w w' := by
  have HB := hide hb
  obtain ⟨aa, ca, rfl, a1, hal⟩ := ha
  have HA := hide hal
  obtain ⟨_, _, ea, -, a2⟩ := hal.at
  injection ea with ea1 ea2 ea3
  subst ea1 ea3
  obtain ⟨ab, cb, rfl, b1, b2⟩ := hb.at
  obtain ⟨n, hn⟩ : ∃ n, n = l.length := ⟨_, rfl⟩
  rw [← hn] at HA HB a1 b1 ⊢
  have HN := hide hn
  have hca : (n : Int) + 2 ≤ ca := by omega
  have tw : IntKind.i64.wrap ((n : Int) + 2) = (n : Int) + 2 := by rw [IntKind.wrap_i64]; omega
  have tnc : ¬ (ca : Int) < (n : Int) + 2 := by omega
  clear hb hn hal ea2
  go_enter Tryd.func25, Tryd.ntmps25
  go_upto_region 4 with fail
  clear tw tnc
  go_wp2_with fail
  go_loopw [6] (fun v6 W => ∃ i : Nat, i ≤ n + 2 ∧ v6 = .int .i64 (i : Int) ∧ Hid (Below w.heap.size w W)) (fun v6 _ => n + 2 - (intOf v6).toNat)
  case atStart => exact ⟨0, Nat.zero_le _, rfl, Below.refl _ _⟩
  case round =>
    obtain ⟨i, hi, rfl, HW⟩ := hrel
    by_cases hlt : i < n + 2
    · have hii : (i : Int) < (n : Int) + 2 := by omega
      have hil : i < (l ++ [77, 77]).length := by have := HN.out; rw [List.length_append]; show _ < _ + 2; omega
      obtain ⟨g, o, e1, -, z1, -⟩ := (HA.out.later HW.out).nth hil
      subst e1
      by_cases hin : i < n
      · have hinn : (i : Int) < (n : Int) := by omega
        have hin3 : ¬ (n : Int) ≤ (i : Int) := by omega
        have hil2 : i < l.length := by have := HN.out; omega
        obtain ⟨g', o', e1, -, z2, -⟩ := (HB.out.later HW.out).nth hil2
        subst e1
        rw [List.getElem_append_left hil2] at z1
        obtain ⟨x, hx⟩ : ∃ x, x = l[i] := ⟨_, rfl⟩
        rw [← hx] at z1 z2
        have tx : ((x : Int) != x) = false := by simp
        clear hx
        go_upto_region 7 with fail
        go_quiet (fail)
        go_wp2_with fail
        go_roundw
        case rel => exact ⟨i + 1, by omega, by go_num, bel_dn HW.out _⟩
        case measure => simp [intOf]; omega
      · have hinn : ¬ (i : Int) < (n : Int) := by omega
        have hin3 : (n : Int) ≤ (i : Int) := by omega
        have e77 : (l ++ [77, 77])[i] = 77 := by
          have := HN.out
          rw [List.getElem_append_right (by omega)]
          rcases (show i - l.length = 0 ∨ i - l.length = 1 by omega) with e | e <;> simp [e]
        rw [e77] at z1
        clear e77
        go_upto_region 7 with fail
        go_quiet (fail)
        go_wp2_with fail
        go_roundw
        case rel => exact ⟨i + 1, by omega, by go_num, bel_dn HW.out _⟩
        case measure => simp [intOf]; omega
    · have hii : ¬ (i : Int) < (n : Int) + 2 := by omega
      go_wp2_with fail
      go_ret
      exact ⟨rfl, HW.out⟩
theorem i77_lo (l : List Ins) (k i : Nat) (h : i < (i77 l k).length) (hi : i < l.length) : (i77 l k)[i] = l[i] := List.getElem_append_left (bs := List.replicate k ⟨77, 0⟩) hi
theorem i77_hi (l : List Ins) (k i : Nat) (h : i < (i77 l k).length) (hi : l.length ≤ i) : (i77 l k)[i] = ⟨77, 0⟩ := (List.getElem_append_right (bs := List.replicate k ⟨77, 0⟩) hi).trans (List.getElem_replicate _)
set_option maxHeartbeats 4000000 in
theorem lsamerow_any {Q Q' : Nat → Prop} {w : World} {va vb : Value} {l : List Ins} (ha : Ix Q w va l) (hb : Il Q' w vb l) : Calls Tryd.prog 11 #[va, vb] w fun e w' => e = .returned (.bool true) ∧ Below w.heap.size w w' := by
  have HB := hide hb
  obtain ⟨aa, ca, rfl, a1, hal⟩ := ha
  have HA := hide hal
  obtain ⟨_, _, ea, -, a2⟩ := hal.at
  injection ea with ea1 ea2 ea3
  subst ea1 ea3
  obtain ⟨ab, cb, rfl, b1, b2⟩ := hb.at
  obtain ⟨n, hn⟩ : ∃ n, n = l.length := ⟨_, rfl⟩
  rw [← hn] at HA HB a1 b1 ⊢
  have HN := hide hn
  have hca : (n : Int) + 8 ≤ ca := by omega
  have tw : IntKind.i64.wrap ((n : Int) + 8) = (n : Int) + 8 := by rw [IntKind.wrap_i64]; omega
  have tnc : ¬ (ca : Int) < (n : Int) + 8 := by omega
  clear hb hn hal ea2
  go_enter Tryd.func11, Tryd.ntmps11
  go_upto_region 4 with fail
  clear tw tnc
  go_wp2_with fail
  go_loopw [6] (fun v6 W => ∃ i : Nat, i ≤ n + 8 ∧ v6 = .int .i64 (i : Int) ∧ Hid (Below w.heap.size w W)) (fun v6 _ => n + 8 - (intOf v6).toNat)
  case atStart => exact ⟨0, Nat.zero_le _, rfl, Below.refl _ _⟩
  case round =>
    obtain ⟨i, hi, rfl, HW⟩ := hrel
    by_cases hlt : i < n + 8
    · have hii : (i : Int) < (n : Int) + 8 := by omega
      have hil : i < (i77 l 8).length := by have := HN.out; rw [i77_len]; omega
      obtain ⟨g, o, e1, -, z1, z2, -, -⟩ := (HA.out.later HW.out).nth hil
      subst e1
      by_cases hin : i < n
      · have hinn : (i : Int) < (n : Int) := by omega
        have hil2 : i < l.length := by have := HN.out; omega
        obtain ⟨g', o', e1, -, z3, z4, -, -⟩ := (HB.out.later HW.out).nth hil2
        subst e1
        rw [i77_lo l 8 i hil hil2] at z1 z2
        obtain ⟨xo, hxo⟩ : ∃ x, x = l[i].op := ⟨_, rfl⟩
        obtain ⟨xa, hxa⟩ : ∃ x, x = l[i].a := ⟨_, rfl⟩
        rw [← hxo] at z1 z3
        rw [← hxa] at z2 z4
        clear hxo hxa
        obtain ⟨W1, hW1⟩ : ∃ X, X = wr.alloc (.cells #[.int .i64 77, .int .i64 0] 47) := ⟨_, rfl⟩
        have b1' : Below wr.heap.size wr W1 := hW1 ▸ below_alloc wr _
        have k1 : W1.heap[wr.heap.size]? = some (.cells #[.int .i64 77, .int .i64 0] 47 (0, 0)) := by rw [hW1]; exact heap_alloc_new wr _
        obtain ⟨gw, hgw⟩ : ∃ x, x = wr.heap.size := ⟨_, rfl⟩
        rw [← hgw] at k1
        have hM := Mv.of_below b1' (fun _ => False)
        have y1 := hM.cell z1 id
        have y2 := hM.cell z2 id
        have y3 := hM.cell z3 id
        have y4 := hM.cell z4 id
        have y5 : W1.cell? ⟨gw, 0, none⟩ = some (.int .i64 77) := by rw [cell_of_row W1 _ _ _ 47 (0, 0) k1]; rfl
        have y6 : W1.cell? ⟨gw, 1, none⟩ = some (.int .i64 0) := by rw [cell_of_row W1 _ _ _ 47 (0, 0) k1]; rfl
        have y7 := frozen_of_row W1 gw 0 _ 47 k1
        have y8 := frozen_of_row W1 gw 1 _ 47 k1
        have ng : g ≠ gw := fun e => by have := World.block_lt_of_cell? wr _ z1; simp only at this; omega
        obtain ⟨W2, hW2⟩ : ∃ X, X = (W1.setCell ⟨gw, 0, none⟩ (.int .i64 xo)).setCell ⟨gw, 1, none⟩ (.int .i64 xa) := ⟨_, rfl⟩
        have B2 : Hid (Below w.heap.size w W2) := by
          have h1 := HW.out.size
          unfold Hid
          rw [hW2]
          exact ((below_on HW.out b1').setCell (by show _ ≤ gw; omega) _).setCell (by show _ ≤ gw; omega) _
        have k2 : W2.heap[gw]? = some (.cells #[.int .i64 xo, .int .i64 xa] 47 (0, 0)) := by rw [hW2, heap_setCell_same _ gw 1 _ 47 _ (heap_setCell_same W1 gw 0 _ 47 _ k1)]; rfl
        have m2 : Mv W1 W2 (fun j => j = gw) := by rw [hW2]; exact (mv_set W1 gw 0 _).trans (mv_set _ gw 1 _) (fun _ _ e => e)
        have S0 : Hid ((W2.drew.cell? ⟨g, o + i * 2, none⟩ = some (.int .i64 xo) ∧ W2.drew.cell? ⟨g, o + i * 2 + 1, none⟩ = some (.int .i64 xa)) ∧ W2.drew.cell? ⟨gw, 0, none⟩ = some (.int .i64 xo) ∧ W2.drew.cell? ⟨gw, 1, none⟩ = some (.int .i64 xa)) := ⟨⟨m2.cell y1 ng, m2.cell y2 ng⟩, by show W2.cell? _ = _; rw [cell_of_row W2 _ _ _ 47 (0, 0) k2]; rfl, by show W2.cell? _ = _; rw [cell_of_row W2 _ _ _ 47 (0, 0) k2]; rfl⟩
        go_upto_region 8 with fail
        rw [← hW1, ← hgw]
        clear hW1 hgw z1 z2 z3 z4 b1' hM k1 m2
        go_upto_region 10 with fail
        rw [← hW2]
        clear hW2 y1 y2 y3 y4 y5 y6 y7 y8
        go_region_held3 (fun V => (V.cell? ⟨g, o + i * 2, none⟩ = some (.int .i64 xo) ∧ V.cell? ⟨g, o + i * 2 + 1, none⟩ = some (.int .i64 xa)) ∧ V.cell? ⟨gw, 0, none⟩ = some (.int .i64 xo) ∧ V.cell? ⟨gw, 1, none⟩ = some (.int .i64 xa)) (exact S0.out) (fail)
        have HW2 := hide (below_on B2.out (below_drew W2))
        clear S0
        go_wp2_with fail
        go_roundw
        case rel => exact ⟨i + 1, by omega, by go_num, HW2⟩
        case measure => simp [intOf]; omega
      · have hinn : ¬ (i : Int) < (n : Int) := by omega
        rw [i77_hi l 8 i hil (by have := HN.out; omega)] at z1 z2
        dsimp only at z1 z2
        obtain ⟨W1, hW1⟩ : ∃ X, X = wr.alloc (.cells #[.int .i64 77, .int .i64 0] 47) := ⟨_, rfl⟩
        have b1' : Below wr.heap.size wr W1 := hW1 ▸ below_alloc wr _
        have k1 : W1.heap[wr.heap.size]? = some (.cells #[.int .i64 77, .int .i64 0] 47 (0, 0)) := by rw [hW1]; exact heap_alloc_new wr _
        obtain ⟨gw, hgw⟩ : ∃ x, x = wr.heap.size := ⟨_, rfl⟩
        rw [← hgw] at k1
        have hM := Mv.of_below b1' (fun _ => False)
        have y1 := hM.cell z1 id
        have y2 := hM.cell z2 id
        have B2 := hide (below_on HW.out b1')
        have S0 : Hid ((W1.drew.cell? ⟨g, o + i * 2, none⟩ = some (.int .i64 77) ∧ W1.drew.cell? ⟨g, o + i * 2 + 1, none⟩ = some (.int .i64 0)) ∧ W1.drew.cell? ⟨gw, 0, none⟩ = some (.int .i64 77) ∧ W1.drew.cell? ⟨gw, 1, none⟩ = some (.int .i64 0)) := ⟨⟨y1, y2⟩, by show W1.cell? _ = _; rw [cell_of_row W1 _ _ _ 47 (0, 0) k1]; rfl, by show W1.cell? _ = _; rw [cell_of_row W1 _ _ _ 47 (0, 0) k1]; rfl⟩
        go_upto_region 8 with fail
        rw [← hW1, ← hgw]
        clear hW1 hgw z1 z2 b1' hM k1 y1 y2
        go_upto_region 10 with fail
        go_region_held3 (fun V => (V.cell? ⟨g, o + i * 2, none⟩ = some (.int .i64 77) ∧ V.cell? ⟨g, o + i * 2 + 1, none⟩ = some (.int .i64 0)) ∧ V.cell? ⟨gw, 0, none⟩ = some (.int .i64 77) ∧ V.cell? ⟨gw, 1, none⟩ = some (.int .i64 0)) (exact S0.out) (fail)
        have HW2 := hide (below_on B2.out (below_drew W1))
        clear S0
        go_wp2_with fail
        go_roundw
        case rel => exact ⟨i + 1, by omega, by go_num, HW2⟩
        case measure => simp [intOf]; omega
    · have hii : ¬ (i : Int) < (n : Int) + 8 := by omega
      go_wp2_with fail
      go_ret
      exact ⟨rfl, HW.out⟩
end Go.Proofs.YtklamaibinjcmaaDoor

/-
  Verify: the law's still, of what was lent and stayed.
-/
namespace Go.Proofs.YtklamaibinjcmaaDoor
open Go.RowKit
set_option maxRecDepth 100000
theorem cells4 {w : World} {B : Nat} {x1 x2 x3 x4 : Value} (h : w.heap[B]? = some (.cells #[x1, x2, x3, x4] 28 (0, 0))) : w.cell? ⟨B, 0, none⟩ = some x1 ∧ w.cell? ⟨B, 1, none⟩ = some x2 ∧ w.cell? ⟨B, 2, none⟩ = some x3 ∧ w.cell? ⟨B, 3, none⟩ = some x4 := by
  refine ⟨?_, ?_, ?_, ?_⟩ <;> rw [cell_of_row w _ _ _ 28 (0, 0) h] <;> rfl
/-- A program that was lent, whole. -/
structure Lnt (N : Nat) (W : World) (gs c1 gf c2 ns nf : Nat) (ls : List (Sy × Lv)) (lf : List (Rt × Value)) : Prop where
  s : Wd.LS N W (.slice (some ⟨gs, 0, none⟩) ns c1) ls
  f : Wd.LF N W (.slice (some ⟨gf, 0, none⟩) nf c2) lf
  bs : Wd.BhS W gs ns
  bf : Wd.BhF W gf nf
  k1 : ns + 1 ≤ c1 ∧ c1 ≤ 9223372036854775807
  k2 : nf + 1 ≤ c2 ∧ c2 ≤ 9223372036854775807
  l1 : ls.length = ns
  l2 : lf.length = nf
theorem Lnt.later {N : Nat} {W W' : World} {gs c1 gf c2 ns nf : Nat} {ls : List (Sy × Lv)} {lf : List (Rt × Value)} (h : Lnt N W gs c1 gf c2 ns nf ls lf) (hb : Below W.heap.size W W') : Lnt N W' gs c1 gf c2 ns nf ls lf :=
  ⟨h.s.later hb, h.f.later hb, h.bs.kp (Wd.KP.below (e := 25) hb) (by decide) (by decide), h.bf.kp (Wd.KP.below (e := 25) hb) (by decide), h.k1, h.k2, h.l1, h.l2⟩
theorem Lnt.cs {N : Nat} {W : World} {gs c1 gf c2 ns nf : Nat} {ls : List (Sy × Lv)} {lf : List (Rt × Value)} (h : Lnt N W gs c1 gf c2 ns nf ls lf) {i : Nat} (hi : i < ls.length) : ∀ j, j < 8 → W.cell? ⟨gs, i * 8 + j, none⟩ = (lvC ls[i])[j]? := fun j hj => by
  have hr := h.s.row
  rw [h.l1] at hr
  exact (hr.cellAt _ (by have := h.l1; omega)).trans (fl_at lvC_len ls i hi j hj)
theorem Lnt.cf {N : Nat} {W : World} {gs c1 gf c2 ns nf : Nat} {ls : List (Sy × Lv)} {lf : List (Rt × Value)} (h : Lnt N W gs c1 gf c2 ns nf ls lf) {i : Nat} (hi : i < lf.length) : ∀ j, j < 4 → W.cell? ⟨gf, i * 4 + j, none⟩ = (rwC lf[i])[j]? := fun j hj => by
  have hr := h.f.row
  rw [h.l2] at hr
  exact (hr.cellAt _ (by have := h.l2; omega)).trans (fl_at rwC_len lf i hi j hj)
set_option maxHeartbeats 8000000 in
theorem lstill_any {Q : Nat → Prop} {N : Nat} {w : World} {gs c1 gf c2 ns nf cs cf : Nat} {sa fa : Option Addr} {ls : List (Sy × Lv)} {lf : List (Rt × Value)} (hL : Lnt N w gs c1 gf c2 ns nf ls lf) (hS : Sys Q w (.slice sa ns cs) (ls.map Prod.fst)) (hF : Rts Q w (.slice fa nf cf) (lf.map Prod.fst)) (hc1 : ns ≤ cs) (hc2 : cs ≤ 9223372036854775807) (hc3 : nf ≤ cf) (hc4 : cf ≤ 9223372036854775807) :
    Calls Tryd.prog 10 #[.agg #[.slice (some ⟨gs, 0, none⟩) ns c1, .slice (some ⟨gf, 0, none⟩) nf c2], .agg #[.slice sa ns cs, .slice fa nf cf]] w fun e w' => e = .returned (.bool true) ∧ Below w.heap.size w w' := by
  have HL := hide hL
  have HS := hide hS
  have HF := hide hF
  obtain ⟨kk1, kk2⟩ := hL.k1
  obtain ⟨kk3, kk4⟩ := hL.k2
  have JS : Hid (∀ (Q Q' : Nat → Prop) (W : World) (va vb : Value) (l : List Int), Nx Q W va l → Nl Q' W vb l → Calls Tryd.prog 25 #[va, vb] W fun e w' => e = .returned (.bool true) ∧ Below W.heap.size W w') := fun _ _ _ _ _ _ a b => lsameset_any a b
  have JR : Hid (∀ (Q Q' : Nat → Prop) (W : World) (va vb : Value) (l : List Ins), Ix Q W va l → Il Q' W vb l → Calls Tryd.prog 11 #[va, vb] W fun e w' => e = .returned (.bool true) ∧ Below W.heap.size W w') := fun _ _ _ _ _ _ a b => lsamerow_any a b
  clear hL hS hF
  obtain ⟨w0, hw0⟩ : ∃ X, X = (w.alloc (.cells #[.slice (some ⟨gs, 0, none⟩) ns c1, .slice (some ⟨gf, 0, none⟩) nf c2] 25)).alloc (.cells #[.slice sa ns cs, .slice fa nf cf] 25) := ⟨_, rfl⟩
  have B0 : Hid (Below w.heap.size w w0) := by unfold Hid; rw [hw0]; exact below_on (below_alloc w _) (below_alloc _ _)
  have hb : w0.heap[w.heap.size]? = some (.cells #[.slice (some ⟨gs, 0, none⟩) ns c1, .slice (some ⟨gf, 0, none⟩) nf c2] 25 (0, 0)) := by
    rw [hw0]
    exact ((below_alloc (w.alloc (.cells #[.slice (some ⟨gs, 0, none⟩) ns c1, .slice (some ⟨gf, 0, none⟩) nf c2] 25)) _).block w.heap.size (by simp)).trans (heap_alloc_new w _)
  have hb' : w0.heap[w.heap.size + 1]? = some (.cells #[.slice sa ns cs, .slice fa nf cf] 25 (0, 0)) := by
    rw [hw0]
    have := heap_alloc_new (w.alloc (.cells #[.slice (some ⟨gs, 0, none⟩) ns c1, .slice (some ⟨gf, 0, none⟩) nf c2] 25)) (.cells #[.slice sa ns cs, .slice fa nf cf] 25)
    simpa using this
  obtain ⟨gq, hgq⟩ : ∃ x, x = w.heap.size := ⟨_, rfl⟩
  obtain ⟨gp, hgp⟩ : ∃ x, x = w.heap.size + 1 := ⟨_, rfl⟩
  rw [← hgq] at hb
  rw [← hgp] at hb'
  have HP : Hid (∀ V, Below w0.heap.size w0 V → V.cell? ⟨gq, 0, none⟩ = some (.slice (some ⟨gs, 0, none⟩) ns c1) ∧ V.cell? ⟨gq, 1, none⟩ = some (.slice (some ⟨gf, 0, none⟩) nf c2) ∧ V.cell? ⟨gp, 0, none⟩ = some (.slice sa ns cs) ∧ V.cell? ⟨gp, 1, none⟩ = some (.slice fa nf cf)) := fun V hV => by
    have e1 := (hV.block gq (lt_of_block hb)).trans hb
    have e2 := (hV.block gp (lt_of_block hb')).trans hb'
    refine ⟨?_, ?_, ?_, ?_⟩
    · rw [cell_of_row V _ _ _ 25 (0, 0) e1]; rfl
    · rw [cell_of_row V _ _ _ 25 (0, 0) e1]; rfl
    · rw [cell_of_row V _ _ _ 25 (0, 0) e2]; rfl
    · rw [cell_of_row V _ _ _ 25 (0, 0) e2]; rfl
  obtain ⟨q0, q1, p0, p1⟩ := HP.out w0 (Below.refl _ _)
  go_enter Tryd.func10, Tryd.ntmps10
  go_upto_region 1 with fail
  rw [← hw0, ← hgp, ← hgq]
  clear hw0 hgp hgq hb hb'
  go_wp2_with fail
  clear q0 q1 p0 p1
  go_loopw [5] (fun v5 W => ∃ i : Nat, i ≤ ns ∧ v5 = .int .i64 (i : Int) ∧ Hid (Below w0.heap.size w0 W)) (fun v5 _ => ns - (intOf v5).toNat)
  case atStart => exact ⟨0, Nat.zero_le _, rfl, Below.refl _ _⟩
  case round =>
    obtain ⟨i, hi, rfl, HW⟩ := hrel
    obtain ⟨q0, q1, p0, p1⟩ := HP.out wr HW.out
    have HWw := hide (below_on B0.out HW.out)
    by_cases hlt : i < ns
    · have hii : (i : Int) < (ns : Int) := by omega
      have hil : i < ls.length := by have := HL.out.l1; omega
      have hx := (HL.out.later HWw.out).s.all _ (List.getElem_mem hil)
      have hcl := (HL.out.later HWw.out).cs hil
      obtain ⟨g, o, e1, -, hat⟩ := (HS.out.later HWw.out).nth (k := i) (by rw [List.length_map]; exact hil)
      subst e1
      rw [List.getElem_map] at hat
      obtain ⟨a1, a2, a3, a4, a5, n1, n2, n3, n4, n5, m1, m2, m3, m4, m5, HV, z1, z2, z3, z4, z5, z6, z7, z8⟩ := hat.vs
      generalize ls[i] = x at *
      obtain ⟨⟨wi, wo, re, wrt, ⟨nm, pa, lo, code⟩⟩, ⟨v1, v2, v3, v4, vc⟩⟩ := x
      have HX := hide hx
      obtain ⟨b1, d1, e1, -⟩ := id hx.wi
      obtain ⟨b2, d2, e2, -⟩ := id hx.wo
      obtain ⟨b3, d3, e3, -⟩ := id hx.re
      obtain ⟨b4, d4, e4, -⟩ := id hx.wr
      obtain ⟨b5, d5, e5, -⟩ := id hx.co
      dsimp only at e1 e2 e3 e4 e5 z1 z2 z3 z4 z5 z6 z7 z8
      subst e1 e2 e3 e4 e5
      have s1 := hcl 0 (by omega)
      have s2 := hcl 1 (by omega)
      have s3 := hcl 2 (by omega)
      have s4 := hcl 3 (by omega)
      have s5 := hcl 4 (by omega)
      have s6 := hcl 5 (by omega)
      have s7 := hcl 6 (by omega)
      have s8 := hcl 7 (by omega)
      simp only [lvC, List.getElem?_cons_zero, List.getElem?_cons_succ, Nat.add_zero] at s1 s2 s3 s4 s5 s6 s7 s8
      have HV := hide HV
      clear hx hcl hat
      obtain ⟨l1, hl1⟩ : ∃ n, n = wi.length := ⟨_, rfl⟩
      obtain ⟨l2, hl2⟩ : ∃ n, n = wo.length := ⟨_, rfl⟩
      obtain ⟨l3, hl3⟩ : ∃ n, n = re.length := ⟨_, rfl⟩
      obtain ⟨l4, hl4⟩ : ∃ n, n = wrt.length := ⟨_, rfl⟩
      obtain ⟨l5, hl5⟩ : ∃ n, n = code.length := ⟨_, rfl⟩
      rw [← hl1] at s1 HX
      rw [← hl2] at s2 HX
      rw [← hl3] at s3 HX
      rw [← hl4] at s4 HX
      rw [← hl5] at s8 HX
      clear hl1 hl2 hl3 hl4 hl5
      obtain ⟨W1, hW1⟩ : ∃ X, X = wr.alloc (.cells #[.slice b1 l1 d1, .slice b2 l2 d2, .slice b3 l3 d3, .slice b4 l4 d4, .string nm, .int .i64 pa, .int .i64 lo, .slice b5 l5 d5] 60) := ⟨_, rfl⟩
      obtain ⟨W2, hW2⟩ : ∃ X, X = W1.alloc (.cells #[.slice a1 n1 m1, .slice a2 n2 m2, .slice a3 n3 m3, .slice a4 n4 m4, .string nm, .int .i64 pa, .int .i64 lo, .slice a5 n5 m5] 60) := ⟨_, rfl⟩
      have bA : Below wr.heap.size wr W1 := hW1 ▸ below_alloc wr _
      have bB : Below W1.heap.size W1 W2 := hW2 ▸ below_alloc W1 _
      have kA : W1.heap[wr.heap.size]? = some (.cells #[.slice b1 l1 d1, .slice b2 l2 d2, .slice b3 l3 d3, .slice b4 l4 d4, .string nm, .int .i64 pa, .int .i64 lo, .slice b5 l5 d5] 60 (0, 0)) := by rw [hW1]; exact heap_alloc_new wr _
      have kB : W2.heap[W1.heap.size]? = some (.cells #[.slice a1 n1 m1, .slice a2 n2 m2, .slice a3 n3 m3, .slice a4 n4 m4, .string nm, .int .i64 pa, .int .i64 lo, .slice a5 n5 m5] 60 (0, 0)) := by rw [hW2]; exact heap_alloc_new W1 _
      have kA2 := (bB.block _ (lt_of_block kA)).trans kA
      obtain ⟨gA, hgA⟩ : ∃ x, x = wr.heap.size := ⟨_, rfl⟩
      obtain ⟨gB, hgB⟩ : ∃ x, x = W1.heap.size := ⟨_, rfl⟩
      rw [← hgA] at kA2
      rw [← hgB] at kB
      have HC : Hid (∀ V, Below W2.heap.size W2 V → (V.cell? ⟨gA, 0, none⟩ = some (.slice b1 l1 d1) ∧ V.cell? ⟨gA, 1, none⟩ = some (.slice b2 l2 d2) ∧ V.cell? ⟨gA, 2, none⟩ = some (.slice b3 l3 d3) ∧ V.cell? ⟨gA, 3, none⟩ = some (.slice b4 l4 d4) ∧ V.cell? ⟨gA, 4, none⟩ = some (.string nm) ∧ V.cell? ⟨gA, 5, none⟩ = some (.int .i64 pa) ∧ V.cell? ⟨gA, 6, none⟩ = some (.int .i64 lo) ∧ V.cell? ⟨gA, 7, none⟩ = some (.slice b5 l5 d5)) ∧ V.cell? ⟨gB, 0, none⟩ = some (.slice a1 n1 m1) ∧ V.cell? ⟨gB, 1, none⟩ = some (.slice a2 n2 m2) ∧ V.cell? ⟨gB, 2, none⟩ = some (.slice a3 n3 m3) ∧ V.cell? ⟨gB, 3, none⟩ = some (.slice a4 n4 m4) ∧ V.cell? ⟨gB, 4, none⟩ = some (.string nm) ∧ V.cell? ⟨gB, 5, none⟩ = some (.int .i64 pa) ∧ V.cell? ⟨gB, 6, none⟩ = some (.int .i64 lo) ∧ V.cell? ⟨gB, 7, none⟩ = some (.slice a5 n5 m5)) := fun V hV => ⟨row8 ((hV.block _ (lt_of_block kA2)).trans kA2), row8 ((hV.block _ (lt_of_block kB)).trans kB)⟩
      have B2 := hide (below_on bA bB)
      have p0' := (Mv.of_below bA (fun _ => False)).cell p0 id
      have hM1 := Mv.of_below bA (fun _ => False)
      have z1' := hM1.cell z1 id
      have z2' := hM1.cell z2 id
      have z3' := hM1.cell z3 id
      have z4' := hM1.cell z4 id
      have z5' := hM1.cell z5 id
      have z6' := hM1.cell z6 id
      have z7' := hM1.cell z7 id
      have z8' := hM1.cell z8 id
      clear z1 z2 z3 z4 z5 z6 z7 z8 bA bB kA kB kA2 hM1
      go_upto_region 7 with fail
      rw [← hW1, ← hgA]
      clear hW1 hgA s1 s2 s3 s4 s5 s6 s7 s8
      go_upto_region 8 with fail
      rw [← hW2, ← hgB]
      clear hW2 hgB p0' z1' z2' z3' z4' z5' z6' z7' z8' q0 q1 p0 p1
      obtain ⟨X0, hX0⟩ : ∃ X, X = W2 := ⟨_, rfl⟩
      have BX0 : Hid (Below W2.heap.size W2 X0) := by rw [hX0]; exact Below.refl _ _
      rw [← hX0]
      clear hX0
      obtain ⟨⟨y1, y2, y3, y4, y5, y6, y7, y8⟩, u1, u2, u3, u4, u5, u6, u7, u8⟩ := HC.out X0 BX0.out
      have J0 := hide (JS.out _ _ X0 _ _ _ (HX.out.mv (Mv.of_below (below_on B2.out BX0.out) (fun _ => False)) (fun _ _ e => e)).wi (HV.out.w.later (below_on B2.out BX0.out)))
      go_wp2_with fail
      refine J0.out.mono ?_
      rintro e X1 ⟨rfl, bx⟩
      have BX1 := hide (below_on BX0.out bx)
      clear bx J0 y1 y2 y3 y4 y5 y6 y7 y8 u1 u2 u3 u4 u5 u6 u7 u8
      obtain ⟨⟨y1, y2, y3, y4, y5, y6, y7, y8⟩, u1, u2, u3, u4, u5, u6, u7, u8⟩ := HC.out X1 BX1.out
      have J1 := hide (JS.out _ _ X1 _ _ _ (HX.out.mv (Mv.of_below (below_on B2.out BX1.out) (fun _ => False)) (fun _ _ e => e)).wo (HV.out.wo.later (below_on B2.out BX1.out)))
      go_wp2_with fail
      refine J1.out.mono ?_
      rintro e X2 ⟨rfl, bx⟩
      have BX2 := hide (below_on BX1.out bx)
      clear bx J1 y1 y2 y3 y4 y5 y6 y7 y8 u1 u2 u3 u4 u5 u6 u7 u8
      obtain ⟨⟨y1, y2, y3, y4, y5, y6, y7, y8⟩, u1, u2, u3, u4, u5, u6, u7, u8⟩ := HC.out X2 BX2.out
      have J2 := hide (JS.out _ _ X2 _ _ _ (HX.out.mv (Mv.of_below (below_on B2.out BX2.out) (fun _ => False)) (fun _ _ e => e)).re (HV.out.re.later (below_on B2.out BX2.out)))
      go_wp2_with fail
      refine J2.out.mono ?_
      rintro e X3 ⟨rfl, bx⟩
      have BX3 := hide (below_on BX2.out bx)
      clear bx J2 y1 y2 y3 y4 y5 y6 y7 y8 u1 u2 u3 u4 u5 u6 u7 u8
      obtain ⟨⟨y1, y2, y3, y4, y5, y6, y7, y8⟩, u1, u2, u3, u4, u5, u6, u7, u8⟩ := HC.out X3 BX3.out
      have J3 := hide (JS.out _ _ X3 _ _ _ (HX.out.mv (Mv.of_below (below_on B2.out BX3.out) (fun _ => False)) (fun _ _ e => e)).wr (HV.out.wr.later (below_on B2.out BX3.out)))
      go_wp2_with fail
      refine J3.out.mono ?_
      rintro e X4 ⟨rfl, bx⟩
      have BX4 := hide (below_on BX3.out bx)
      clear bx J3 y1 y2 y3 y4 y5 y6 y7 y8 u1 u2 u3 u4 u5 u6 u7 u8
      obtain ⟨⟨y1, y2, y3, y4, y5, y6, y7, y8⟩, u1, u2, u3, u4, u5, u6, u7, u8⟩ := HC.out X4 BX4.out
      have J4 := hide (JR.out _ _ X4 _ _ _ (HX.out.mv (Mv.of_below (below_on B2.out BX4.out) (fun _ => False)) (fun _ _ e => e)).co (HV.out.co.later (below_on B2.out BX4.out)))
      go_wp2_with fail
      refine J4.out.mono ?_
      rintro e X5 ⟨rfl, bx⟩
      have BX5 := hide (below_on BX4.out bx)
      clear bx J4 y1 y2 y3 y4 y5 y6 y7 y8 u1 u2 u3 u4 u5 u6 u7 u8
      obtain ⟨⟨y1, y2, y3, y4, y5, y6, y7, y8⟩, u1, u2, u3, u4, u5, u6, u7, u8⟩ := HC.out X5 BX5.out
      have RW := hide (below_on HW.out (below_on B2.out BX5.out))
      have tpa : ((pa : Int) != pa) = false := by simp
      have tlo : ((lo : Int) != lo) = false := by simp
      have tnm : (nm.toList == nm.toList) = true := by simp
      clear HC HX HV B2 BX0 BX1 BX2 BX3 BX4 BX5
      go_wp2_with fail
      go_roundw
      case rel => exact ⟨i + 1, by omega, by go_num, RW⟩
      case measure => simp [intOf]; omega
    · have hii : ¬ (i : Int) < (ns : Int) := by omega
      have HW0 := HW
      go_wp2_with fail
      clear q0 q1 p0 p1 hii
      go_loopw [13] (fun v13 W => ∃ j : Nat, j ≤ nf ∧ v13 = .int .i64 (j : Int) ∧ Hid (Below w0.heap.size w0 W)) (fun v13 _ => nf - (intOf v13).toNat)
      case atStart => exact ⟨0, Nat.zero_le _, rfl, HW0⟩
      case round =>
        clear HW HWw HW0
        obtain ⟨j, hj, rfl, HW⟩ := hrel
        obtain ⟨q0, q1, p0, p1⟩ := HP.out wr HW.out
        have HWw := hide (below_on B0.out HW.out)
        by_cases hltj : j < nf
        · have hjj : (j : Int) < (nf : Int) := by omega
          have hjl : j < lf.length := by have := HL.out.l2; omega
          have hx := (HL.out.later HWw.out).f.all _ (List.getElem_mem hjl)
          have hcl := (HL.out.later HWw.out).cf hjl
          obtain ⟨g, o, e1, -, -, -, vq, z1, z2, z3, z4, hvq⟩ := (HF.out.later HWw.out).nth (k := j) (by rw [List.length_map]; exact hjl)
          subst e1
          rw [List.getElem_map] at z1 z2 z3 hvq
          generalize lf[j] = x at *
          obtain ⟨⟨nm, pa, lo, code⟩, vc⟩ := x
          have HX := hide hx
          have HV := hide hvq
          obtain ⟨b5, d5, e5, -⟩ := id hx.co
          obtain ⟨a5, m5, e6, -, -⟩ := hvq.at
          dsimp only at e5 e6 z1 z2 z3
          subst e5 e6
          have s1 := hcl 0 (by omega)
          have s2 := hcl 1 (by omega)
          have s3 := hcl 2 (by omega)
          have s4 := hcl 3 (by omega)
          simp only [rwC, List.getElem?_cons_zero, List.getElem?_cons_succ, Nat.add_zero] at s1 s2 s3 s4
          clear hx hcl hvq
          obtain ⟨l5, hl5⟩ : ∃ n, n = code.length := ⟨_, rfl⟩
          rw [← hl5] at s4 z4 HX HV
          clear hl5
          obtain ⟨W1, hW1⟩ : ∃ X, X = wr.alloc (.cells #[.string nm, .int .i64 pa, .int .i64 lo, .slice b5 l5 d5] 28) := ⟨_, rfl⟩
          obtain ⟨W2, hW2⟩ : ∃ X, X = W1.alloc (.cells #[.string nm, .int .i64 pa, .int .i64 lo, .slice a5 l5 m5] 28) := ⟨_, rfl⟩
          have bA : Below wr.heap.size wr W1 := hW1 ▸ below_alloc wr _
          have bB : Below W1.heap.size W1 W2 := hW2 ▸ below_alloc W1 _
          have kA : W1.heap[wr.heap.size]? = some (.cells #[.string nm, .int .i64 pa, .int .i64 lo, .slice b5 l5 d5] 28 (0, 0)) := by rw [hW1]; exact heap_alloc_new wr _
          have kB : W2.heap[W1.heap.size]? = some (.cells #[.string nm, .int .i64 pa, .int .i64 lo, .slice a5 l5 m5] 28 (0, 0)) := by rw [hW2]; exact heap_alloc_new W1 _
          have kA2 := (bB.block _ (lt_of_block kA)).trans kA
          obtain ⟨gA, hgA⟩ : ∃ x, x = wr.heap.size := ⟨_, rfl⟩
          obtain ⟨gB, hgB⟩ : ∃ x, x = W1.heap.size := ⟨_, rfl⟩
          rw [← hgA] at kA2
          rw [← hgB] at kB
          have HC : Hid (∀ V, Below W2.heap.size W2 V → (V.cell? ⟨gA, 0, none⟩ = some (.string nm) ∧ V.cell? ⟨gA, 1, none⟩ = some (.int .i64 pa) ∧ V.cell? ⟨gA, 2, none⟩ = some (.int .i64 lo) ∧ V.cell? ⟨gA, 3, none⟩ = some (.slice b5 l5 d5)) ∧ V.cell? ⟨gB, 0, none⟩ = some (.string nm) ∧ V.cell? ⟨gB, 1, none⟩ = some (.int .i64 pa) ∧ V.cell? ⟨gB, 2, none⟩ = some (.int .i64 lo) ∧ V.cell? ⟨gB, 3, none⟩ = some (.slice a5 l5 m5)) := fun V hV => ⟨cells4 ((hV.block _ (lt_of_block kA2)).trans kA2), cells4 ((hV.block _ (lt_of_block kB)).trans kB)⟩
          have B2 := hide (below_on bA bB)
          have hM1 := Mv.of_below bA (fun _ => False)
          have p1' := hM1.cell p1 id
          have z1' := hM1.cell z1 id
          have z2' := hM1.cell z2 id
          have z3' := hM1.cell z3 id
          have z4' := hM1.cell z4 id
          clear z1 z2 z3 z4 bA bB kA kB kA2 hM1
          go_upto_region 19 with fail
          rw [← hW1, ← hgA]
          clear hW1 hgA s1 s2 s3 s4
          go_upto_region 20 with fail
          rw [← hW2, ← hgB]
          clear hW2 hgB p1' z1' z2' z3' z4' q0 q1 p0 p1
          obtain ⟨⟨y1, y2, y3, y4⟩, u1, u2, u3, u4⟩ := HC.out W2 (Below.refl _ _)
          have J0 := hide (JR.out _ _ W2 _ _ _ (HX.out.mv (Mv.of_below B2.out (fun _ => False)) (fun _ _ e => e)).co (HV.out.later B2.out))
          go_wp2_with fail
          refine J0.out.mono ?_
          rintro e X1 ⟨rfl, bx⟩
          have BX1 := hide bx
          clear bx J0 y1 y2 y3 y4 u1 u2 u3 u4
          obtain ⟨⟨y1, y2, y3, y4⟩, u1, u2, u3, u4⟩ := HC.out X1 BX1.out
          have RW := hide (below_on HW.out (below_on B2.out BX1.out))
          have tpa : ((pa : Int) != pa) = false := by simp
          have tlo : ((lo : Int) != lo) = false := by simp
          have tnm : (nm.toList == nm.toList) = true := by simp
          clear HC HX HV B2 BX1
          go_wp2_with fail
          go_roundw
          case rel => exact ⟨j + 1, by omega, by go_num, RW⟩
          case measure => simp [intOf]; omega
        · have hjj : ¬ (j : Int) < (nf : Int) := by omega
          obtain ⟨h77, cs8, hb1, hb2, hb3⟩ := (HL.out.later HWw.out).bs
          obtain ⟨cs4, hb4, hb5⟩ := (HL.out.later HWw.out).bf
          have r : ∀ j, j < 8 → wr.cell? ⟨gs, ns * 8 + j, none⟩ = (Wd.bS h77)[j]? := fun j hj => by rw [cell_of_row wr _ _ _ 60 (0, 0) hb1]; exact hb2 j hj
          have r1 : wr.cell? ⟨gs, ns * 8, none⟩ = some (.slice (some ⟨h77, 0, none⟩) 1 1) := r 0 (by omega)
          have r2 : wr.cell? ⟨gs, ns * 8 + 1, none⟩ = some (.slice none 0 0) := r 1 (by omega)
          have r3 : wr.cell? ⟨gs, ns * 8 + 2, none⟩ = some (.slice none 0 0) := r 2 (by omega)
          have r4 : wr.cell? ⟨gs, ns * 8 + 3, none⟩ = some (.slice none 0 0) := r 3 (by omega)
          have r5 : wr.cell? ⟨gs, ns * 8 + 4, none⟩ = some (.string ⟨#[]⟩) := r 4 (by omega)
          have r6 : wr.cell? ⟨gs, ns * 8 + 5, none⟩ = some (.int .i64 0) := r 5 (by omega)
          have r7 : wr.cell? ⟨gs, ns * 8 + 6, none⟩ = some (.int .i64 0) := r 6 (by omega)
          have r8 : wr.cell? ⟨gs, ns * 8 + 7, none⟩ = some (.slice none 0 0) := r 7 (by omega)
          have t77 : wr.cell? ⟨h77, 0, none⟩ = some (.int .i64 77) := by rw [cell_of_row wr _ _ _ 3 (0, 0) hb3]; rfl
          have tb : wr.cell? ⟨gf, nf * 4, none⟩ = some (.string ⟨#[98, 101, 104, 105, 110, 100]⟩) := by rw [cell_of_row wr _ _ _ 28 (0, 0) hb4]; exact hb5
          have tw1 : IntKind.i64.wrap ((ns : Int) + 1) = (ns : Int) + 1 := by rw [IntKind.wrap_i64]; omega
          have tw2 : IntKind.i64.wrap ((nf : Int) + 1) = (nf : Int) + 1 := by rw [IntKind.wrap_i64]; omega
          have tc1 : (ns : Int) + 1 ≤ c1 := by omega
          have tc2 : (nf : Int) + 1 ≤ c2 := by omega
          have tl1 : (ns : Int) < (ns : Int) + 1 := by omega
          have tl2 : (nf : Int) < (nf : Int) + 1 := by omega
          obtain ⟨W1, hW1⟩ : ∃ X, X = wr.alloc (.cells #[.slice (some ⟨h77, 0, none⟩) 1 1, .slice none 0 0, .slice none 0 0, .slice none 0 0, .string ⟨#[]⟩, .int .i64 0, .int .i64 0, .slice none 0 0] 60) := ⟨_, rfl⟩
          have bA : Below wr.heap.size wr W1 := hW1 ▸ below_alloc wr _
          have kA : W1.heap[wr.heap.size]? = some (.cells #[.slice (some ⟨h77, 0, none⟩) 1 1, .slice none 0 0, .slice none 0 0, .slice none 0 0, .string ⟨#[]⟩, .int .i64 0, .int .i64 0, .slice none 0 0] 60 (0, 0)) := by rw [hW1]; exact heap_alloc_new wr _
          obtain ⟨gA, hgA⟩ : ∃ x, x = wr.heap.size := ⟨_, rfl⟩
          rw [← hgA] at kA
          have hM1 := Mv.of_below bA (fun _ => False)
          have x1 : W1.cell? ⟨gA, 0, none⟩ = some (.slice (some ⟨h77, 0, none⟩) 1 1) := by rw [cell_of_row W1 _ _ _ 60 (0, 0) kA]; rfl
          have x2 := hM1.cell t77 id
          have x3 := hM1.cell tb id
          have x4 := hM1.cell p1 id
          have BE := hide (below_on HWw.out bA)
          clear r hb1 hb2 hb3 hb4 hb5 bA kA hM1 HWw HW
          go_upto_region 26 with fail
          rw [← hW1, ← hgA]
          clear hW1 hgA r1 r2 r3 r4 r5 r6 r7 r8 q0 q1 p0 p1 t77 tb
          go_wp2_with fail
          go_ret
          exact ⟨by rfl, BE.out⟩
end Go.Proofs.YtklamaibinjcmaaDoor

/-
  Verify: Depths' answers; three lists that their owner writes into.
-/
namespace Go.Proofs.YtklamaibinjcmaaDoor
open Go.RowKit
set_option maxRecDepth 100000
/-- What Depths answers, told as the document does. -/
theorem dps_da {B : Nat} {fs : List Rt} {c : List Ins} {w' : World} {v ve : Value} (h : DpsOut B fs c w' v ve) : ∃ at_ er l o, DA fs c at_ er l ∧ w'.ownsRow B 3 1 v l.length (zq l) ∧ Flt w' ve o ∧ lfV o = .tuple #[.int .i64 at_, .int .i64 er, .bool true] := by
  rcases h with ⟨h1, rfl, h3⟩ | ⟨h1, rfl, h3⟩ | ⟨h1, h2, p, hp, rfl, h3⟩ | ⟨h1, h2, h3, rfl, h5⟩
  · exact ⟨0, 130, [], _, .inl ⟨h1, rfl, rfl, rfl⟩, World.ownsRow_nil _ _ _ _, h3, rfl⟩
  · exact ⟨0, 153, [], _, .inr (.inl ⟨h1, rfl, rfl, rfl⟩), World.ownsRow_nil _ _ _ _, h3, rfl⟩
  · refine ⟨(p : Int), wrR 150 151 153 fs c p, [], _, .inr (.inr (.inl ⟨h1, h2, p, hp, rfl, rfl, rfl⟩)), World.ownsRow_nil _ _ _ _, h3, ?_⟩
    have : wrR 150 151 153 fs c p ≠ 0 := hp.2.1.2
    simp [lfV, this]
  · refine ⟨0, 0, (List.range c.length).map fun p => dpR fs c p, none, .inr (.inr (.inr ⟨h1, h2, h3, rfl, rfl, rfl⟩)), ?_, rfl, rfl⟩
    rw [List.length_map, List.length_range]
    have e : zq ((List.range c.length).map fun p => dpR fs c p) = (List.range c.length).map fun p => Value.int .i64 (dpR fs c p) := by simp [zq]
    rw [e]
    exact h5
theorem own_nlU {W : World} {B : Nat} {v : Value} {l : List Int} (h : W.ownsRow B 3 1 v l.length (zq l)) (h6 : ∀ x ∈ l, I6 x) : Nl (fun g => v.ownBlock = some g) W v l := by
  obtain ⟨a, c, rfl⟩ := own_len h
  obtain ⟨h1, h2⟩ := own_cap h
  refine ⟨a, c, rfl, h1, by unfold maxLen; omega, fun h0 => ?_⟩
  obtain ⟨g, c', e, -, -⟩ := own_form h h0
  simp only [Value.slice.injEq, true_and] at e
  obtain ⟨rfl, rfl⟩ := e
  refine ⟨g, 0, rfl, rfl, fun i hi => ⟨h6 _ (List.getElem_mem hi), ?_⟩⟩
  rw [Nat.zero_add, h.cellAt i (by omega)]
  simp [zq, hi]
/-- So many times one number, as it is read. -/
def RdU (U : Nat → Prop) (W : World) (v : Value) (n : Nat) (x : Int) : Prop := ∃ a c, v = .slice a n c ∧ n ≤ c ∧ c ≤ 9223372036854775807 ∧ (0 < n → ∃ g, a = some ⟨g, 0, none⟩ ∧ U g ∧ ∀ i, i < n → W.cell? ⟨g, i, none⟩ = some (.int .i64 x))
section
variable {U U' S : Nat → Prop} {W W' : World} {v : Value} {n : Nat} {x : Int}
theorem RdU.mv (h : RdU U W v n x) (hm : Mv W W' S) (hs : ∀ g, U g → ¬ S g) : RdU U W' v n x := by
  obtain ⟨a, c, h1, h2, h3, h4⟩ := h
  refine ⟨a, c, h1, h2, h3, fun h0 => ?_⟩
  obtain ⟨g, k1, k2, k3⟩ := h4 h0
  exact ⟨g, k1, k2, fun i hi => hm.cell (k3 i hi) (hs g k2)⟩
theorem RdU.mono (h : RdU U W v n x) (hu : ∀ g, U g → U' g) : RdU U' W v n x := by
  obtain ⟨a, c, h1, h2, h3, h4⟩ := h
  refine ⟨a, c, h1, h2, h3, fun h0 => ?_⟩
  obtain ⟨g, k1, k2, k3⟩ := h4 h0
  exact ⟨g, k1, hu g k2, k3⟩
theorem own_rdU {B : Nat} (h : W.ownsRow B 3 1 v n (zq (List.replicate n x))) : RdU (fun g => v.ownBlock = some g) W v n x := by
  obtain ⟨a, c, rfl⟩ := own_len h
  obtain ⟨h1, h2⟩ := own_cap h
  refine ⟨a, c, rfl, h1, h2, fun h0 => ?_⟩
  obtain ⟨g, c', e, -, -⟩ := own_form h h0
  simp only [Value.slice.injEq, true_and] at e
  obtain ⟨rfl, rfl⟩ := e
  refine ⟨g, rfl, rfl, fun i hi => ?_⟩
  rw [h.cellAt i (by omega)]
  simp [zq, hi]
end
theorem Nl.mv' {U S : Nat → Prop} {W W' : World} {v : Value} {l : List Int} (h : Nl U W v l) (hm : Mv W W' S) (hs : ∀ g, U g → ¬ S g) : Nl U W' v l := by
  obtain ⟨ao, c, h1, h2, h3, h4⟩ := h
  refine ⟨ao, c, h1, h2, h3, fun h0 => ?_⟩
  obtain ⟨g, o, h5, h6, h7⟩ := h4 h0
  refine ⟨g, o, h5, h6, fun i hi => ?_⟩
  obtain ⟨a, b⟩ := h7 i hi
  exact ⟨a, hm.cell b (hs g h6)⟩
/-- A block of numbers. -/
def IsI (W : World) (g : Nat) : Prop := ∃ cs, W.heap[g]? = some (Obj.cells cs 3 (0, 0))
theorem IsI.ne {W : World} {g B n : Nat} {v : Value} {xs : List Value} (h : IsI W g) (ho : W.ownsRow B 32 1 v n xs) : ¬ v.ownBlock = some g := fun e => by
  obtain ⟨cs, hc⟩ := own_blk2 ho e
  obtain ⟨ds, hd⟩ := h
  rw [hc] at hd
  injection hd with hd
  injection hd with h1 h2
  exact absurd h2 (by decide)
theorem IsI.nb {W : World} {g g' : Nat} {ds : Array Value} (h : IsI W g) (hg : W.heap[g']? = some (Obj.cells ds 32 (0, 0))) : ¬ g = g' := fun e => by
  subst e
  obtain ⟨cs, hc⟩ := h
  rw [hg] at hc
  injection hc with hc
  injection hc with h1 h2
  exact absurd h2 (by decide)
/-- What stands beside the list that is written into. -/
structure Ot (B1 k : Nat) (U : Nat → Prop) (cv wv lv : Nat → Value) (cl : Nat → List Int) (gcm gwt : Nat) (vl : Value) (W : World) : Prop where
  uk : ∀ g, U g → IsI W g
  und : ∀ j, k < j → j < 3 → W.ownsRow B1 3 1 (cv j) (cl j).length (zq (cl j)) ∧ ∀ g, (cv j).ownBlock = some g → U g
  don : ∀ j, j < k → RdU U W (cv j) (cl j).length (1000 + (j : Int)) ∧ RdU U W (lv j) ((cl j).length + 70) (1000 + (j : Int))
  wn : ∀ j, j < 3 → Nl U W (wv j) (cl j)
  came : W.heap[gcm]? = some (.cells #[cv 0, cv 1, cv 2] 32 (0, 0))
  want : W.heap[gwt]? = some (.cells #[wv 0, wv 1, wv 2] 32 (0, 0))
  long : W.ownsRow B1 32 1 vl k ((List.range k).map lv)
  lg : vl.ownBlock ≠ some gcm ∧ vl.ownBlock ≠ some gwt
section
variable {B1 k : Nat} {U U' S : Nat → Prop} {cv wv lv : Nat → Value} {cl : Nat → List Int} {gcm gwt : Nat} {vl : Value} {W W' : World}
theorem Ot.mv (h : Ot B1 k U cv wv lv cl gcm gwt vl W) (hm : Mv W W' S) (hs : ∀ g, U g → ¬ S g) (hk : ∀ g, S g → g < W.heap.size → IsI W g) : Ot B1 k U cv wv lv cl gcm gwt vl W' := by
  have h44 : ∀ {g : Nat} {ds : Array Value}, W.heap[g]? = some (Obj.cells ds 32 (0, 0)) → ¬ S g := fun hg e => (hk _ e (lt_of_block hg)).nb hg rfl
  refine ⟨fun g e => ?_, fun j h1 h2 => ⟨hm.own (h.und j h1 h2).1 (fun g e => hs g ((h.und j h1 h2).2 g e)), (h.und j h1 h2).2⟩, fun j hj => ⟨(h.don j hj).1.mv hm hs, (h.don j hj).2.mv hm hs⟩, fun j hj => (h.wn j hj).mv' hm hs, hm.at h.came (h44 h.came), hm.at h.want (h44 h.want), hm.own h.long (fun g e => ?_), h.lg⟩
  · obtain ⟨cs, hc⟩ := h.uk g e
    exact ⟨cs, hm.at hc (hs g e)⟩
  · obtain ⟨cs, hc⟩ := own_blk2 h.long e
    exact h44 hc
theorem Ot.later (h : Ot B1 k U cv wv lv cl gcm gwt vl W) (hb : Below W.heap.size W W') : Ot B1 k U cv wv lv cl gcm gwt vl W' := h.mv (Mv.of_below hb (fun _ => False)) (fun _ _ e => e) (fun _ e => e.elim)
/-- At the head of a turn. -/
structure Hd (B1 k : Nat) (U : Nat → Prop) (cv wv lv : Nat → Value) (cl : Nat → List Int) (gcm gwt : Nat) (vl : Value) (W : World) : Prop where
  uk : ∀ g, U g → IsI W g
  und : ∀ j, k ≤ j → j < 3 → W.ownsRow B1 3 1 (cv j) (cl j).length (zq (cl j)) ∧ ∀ g, (cv j).ownBlock = some g → ¬ U g
  ap : ∀ i j, k ≤ i → i < 3 → k ≤ j → j < 3 → i ≠ j → ∀ g, (cv i).ownBlock = some g → (cv j).ownBlock ≠ some g
  don : ∀ j, j < k → RdU U W (cv j) (cl j).length (1000 + (j : Int)) ∧ RdU U W (lv j) ((cl j).length + 70) (1000 + (j : Int))
  wn : ∀ j, j < 3 → Nl U W (wv j) (cl j)
  came : W.heap[gcm]? = some (.cells #[cv 0, cv 1, cv 2] 32 (0, 0))
  want : W.heap[gwt]? = some (.cells #[wv 0, wv 1, wv 2] 32 (0, 0))
  long : W.ownsRow B1 32 1 vl k ((List.range k).map lv)
  lg : vl.ownBlock ≠ some gcm ∧ vl.ownBlock ≠ some gwt
def Uk (k : Nat) (U : Nat → Prop) (cv : Nat → Value) (g : Nat) : Prop := U g ∨ ∃ j, k < j ∧ j < 3 ∧ (cv j).ownBlock = some g
theorem Hd.later (h : Hd B1 k U cv wv lv cl gcm gwt vl W) (hb : Below W.heap.size W W') : Hd B1 k U cv wv lv cl gcm gwt vl W' := by
  have hm := Mv.of_below hb (fun _ => False)
  exact ⟨fun g e => (by obtain ⟨cs, hc⟩ := h.uk g e; exact ⟨cs, hm.at hc id⟩), fun j h1 h2 => ⟨hm.own (h.und j h1 h2).1 (fun _ _ e => e), (h.und j h1 h2).2⟩, h.ap, fun j hj => ⟨(h.don j hj).1.mv hm (fun _ _ e => e), (h.don j hj).2.mv hm (fun _ _ e => e)⟩, fun j hj => (h.wn j hj).mv' hm (fun _ _ e => e), hm.at h.came id, hm.at h.want id, hm.own h.long (fun _ _ e => e), h.lg⟩
theorem Hd.enter (h : Hd B1 k U cv wv lv cl gcm gwt vl W) (hk : k < 3) : Ot B1 k (Uk k U cv) cv wv lv cl gcm gwt vl W ∧ ∀ g, (cv k).ownBlock = some g → ¬ Uk k U cv g := by
  refine ⟨⟨fun g e => ?_, fun j h1 h2 => ⟨(h.und j (by omega) h2).1, fun g e => .inr ⟨j, h1, h2, e⟩⟩, fun j hj => ⟨(h.don j hj).1.mono (fun _ => .inl), (h.don j hj).2.mono (fun _ => .inl)⟩, fun j hj => (h.wn j hj).mono (fun _ => .inl), h.came, h.want, h.long, h.lg⟩, fun g e => ?_⟩
  · rcases e with e | ⟨j, h1, h2, h3⟩
    · exact h.uk g e
    · exact own_blk2 (h.und j (by omega) h2).1 h3
  · rintro (e' | ⟨j, h1, h2, h3⟩)
    · exact (h.und k (Nat.le_refl _) hk).2 g e e'
    · exact h.ap k j (Nat.le_refl _) hk (by omega) h2 (by omega) g e h3
def upd (lv : Nat → Value) (k : Nat) (v : Value) : Nat → Value := fun j => if j = k then v else lv j
theorem upd_ne {lv : Nat → Value} {k j : Nat} {v : Value} (h : j ≠ k) : upd lv k v j = lv j := if_neg h
theorem upd_eq {lv : Nat → Value} {k : Nat} {v : Value} : upd lv k v k = v := if_pos rfl
/-- A turn is done. -/
theorem Ot.leave {v39 vl' : Value} (h : Ot B1 k (Uk k U cv) cv wv lv cl gcm gwt vl W) (hU : ∀ j, k ≤ j → j < 3 → ∀ g, (cv j).ownBlock = some g → ¬ U g) (ha : ∀ i j, k ≤ i → i < 3 → k ≤ j → j < 3 → i ≠ j → ∀ g, (cv i).ownBlock = some g → (cv j).ownBlock ≠ some g)
    (hd : ∀ j, j < k → RdU U W (cv j) (cl j).length (1000 + (j : Int)) ∧ RdU U W (lv j) ((cl j).length + 70) (1000 + (j : Int))) (hw : ∀ j, j < 3 → Nl U W (wv j) (cl j))
    (hn : ∀ g, v39.ownBlock = some g → ¬ Uk k U cv g ∧ IsI W g) (hi : ∀ g, (cv k).ownBlock = some g → IsI W g) (hc : RdU (fun g => (cv k).ownBlock = some g) W (cv k) (cl k).length (1000 + (k : Int))) (hl : RdU (fun g => v39.ownBlock = some g) W v39 ((cl k).length + 70) (1000 + (k : Int)))
    (hg : W.grownBy W' vl.ownBlock) (ho : W'.ownsRow B1 32 1 vl' (k + 1) ((List.range k).map lv ++ [v39])) (hv : vl'.ownBlock = vl.ownBlock ∨ vl'.ownBlock = some W.heap.size) (hk : k < 3) :
    Hd B1 (k + 1) (fun g => U g ∨ (cv k).ownBlock = some g ∨ v39.ownBlock = some g) cv wv (upd lv k v39) cl gcm gwt vl' W' := by
  have hm := mv_grown hg
  have nI : ∀ g, IsI W g → ¬ vl.ownBlock = some g := fun g e => e.ne h.long
  have hi' : ∀ g, IsI W g → IsI W' g := fun g e => by obtain ⟨cs, hc⟩ := id e; exact ⟨cs, hm.at hc (nI g e)⟩
  have uI : ∀ g, U g → IsI W g := fun g e => h.uk g (.inl e)
  refine ⟨fun g e => ?_, fun j h1 h2 => ⟨hm.own (h.und j (by omega) h2).1 (fun g e => nI g (h.uk g ((h.und j (by omega) h2).2 g e))), fun g e => ?_⟩, fun i j h1 h2 h3 h4 h5 => ha i j (by omega) h2 (by omega) h4 h5, fun j hj => ?_, fun j hj => ((hw j hj).mv' hm (fun g e => nI g (uI g e))).mono (fun _ => .inl), hm.at h.came h.lg.1, hm.at h.want h.lg.2, ?_, ?_⟩
  · rcases e with e | e | e
    · exact hi' g (uI g e)
    · exact hi' g (hi g e)
    · exact hi' g (hn g e).2
  · rintro (e' | e' | e')
    · exact hU j (by omega) h2 g e e'
    · exact ha k j (Nat.le_refl _) hk (by omega) h2 (by omega) g e' e
    · exact (hn g e').1 (.inr ⟨j, by omega, h2, e⟩)
  · by_cases e : j = k
    · subst e
      rw [upd_eq]
      exact ⟨(hc.mv hm (fun g e => nI g (hi g e))).mono (fun _ e => .inr (.inl e)), (hl.mv hm (fun g e => nI g (hn g e).2)).mono (fun _ e => .inr (.inr e))⟩
    · rw [upd_ne e]
      exact ⟨((hd j (by omega)).1.mv hm (fun g e => nI g (uI g e))).mono (fun _ => .inl), ((hd j (by omega)).2.mv hm (fun g e => nI g (uI g e))).mono (fun _ => .inl)⟩
  · have e : (List.range (k + 1)).map (upd lv k v39) = (List.range k).map lv ++ [v39] := by
      rw [List.range_succ, List.map_append, List.map_singleton, upd_eq]
      congr 1
      apply List.map_congr_left
      intro j hj
      exact upd_ne (by have := List.mem_range.1 hj; omega)
    rw [e]
    exact ho
  · rcases hv with e | e
    · rw [e]
      exact h.lg
    · rw [e]
      refine ⟨fun e' => ?_, fun e' => ?_⟩
      · injection e' with e'
        have := lt_of_block h.came
        omega
      · injection e' with e'
        have := lt_of_block h.want
        omega
end
end Go.Proofs.YtklamaibinjcmaaDoor

/-
  VerifyDepths: its frame, and what stands behind a statement of it.
-/
namespace Go.Proofs.YtklamaibinjcmaaDoor
open Go.RowKit
set_option maxRecDepth 1000000
noncomputable def bodyV : Code := (Tryd.f3.body.getD .skip)
/-- What stands behind so many statements. -/
def tailN : Nat → Code → Code
  | 0, c => c
  | n + 1, .seq _ b => tailN n b
  | _, c => c
/-- The statement of this number. -/
def headN : Nat → Code → Code
  | 0, .seq a _ => a
  | n + 1, .seq _ b => headN n b
  | _, c => c
def rdF (ds : List Deferred) (s : Nat → Value) : Act := { tmps := ((List.range 340).map s).toArray, defers := ds }
theorem rdF_lit (ds : List Deferred) (s : Nat → Value) : rdF ds s = { tmps := #[s 0, s 1, s 2, s 3, s 4, s 5, s 6, s 7, s 8, s 9, s 10, s 11, s 12, s 13, s 14, s 15, s 16, s 17, s 18, s 19, s 20, s 21, s 22, s 23, s 24, s 25, s 26, s 27, s 28, s 29, s 30, s 31, s 32, s 33, s 34, s 35, s 36, s 37, s 38, s 39, s 40, s 41, s 42, s 43, s 44, s 45, s 46, s 47, s 48, s 49, s 50, s 51, s 52, s 53, s 54, s 55, s 56, s 57, s 58, s 59, s 60, s 61, s 62, s 63, s 64, s 65, s 66, s 67, s 68, s 69, s 70, s 71, s 72, s 73, s 74, s 75, s 76, s 77, s 78, s 79, s 80, s 81, s 82, s 83, s 84, s 85, s 86, s 87, s 88, s 89, s 90, s 91, s 92, s 93, s 94, s 95, s 96, s 97, s 98, s 99, s 100, s 101, s 102, s 103, s 104, s 105, s 106, s 107, s 108, s 109, s 110, s 111, s 112, s 113, s 114, s 115, s 116, s 117, s 118, s 119, s 120, s 121, s 122, s 123, s 124, s 125, s 126, s 127, s 128, s 129, s 130, s 131, s 132, s 133, s 134, s 135, s 136, s 137, s 138, s 139, s 140, s 141, s 142, s 143, s 144, s 145, s 146, s 147, s 148, s 149, s 150, s 151, s 152, s 153, s 154, s 155, s 156, s 157, s 158, s 159, s 160, s 161, s 162, s 163, s 164, s 165, s 166, s 167, s 168, s 169, s 170, s 171, s 172, s 173, s 174, s 175, s 176, s 177, s 178, s 179, s 180, s 181, s 182, s 183, s 184, s 185, s 186, s 187, s 188, s 189, s 190, s 191, s 192, s 193, s 194, s 195, s 196, s 197, s 198, s 199, s 200, s 201, s 202, s 203, s 204, s 205, s 206, s 207, s 208, s 209, s 210, s 211, s 212, s 213, s 214, s 215, s 216, s 217, s 218, s 219, s 220, s 221, s 222, s 223, s 224, s 225, s 226, s 227, s 228, s 229, s 230, s 231, s 232, s 233, s 234, s 235, s 236, s 237, s 238, s 239, s 240, s 241, s 242, s 243, s 244, s 245, s 246, s 247, s 248, s 249, s 250, s 251, s 252, s 253, s 254, s 255, s 256, s 257, s 258, s 259, s 260, s 261, s 262, s 263, s 264, s 265, s 266, s 267, s 268, s 269, s 270, s 271, s 272, s 273, s 274, s 275, s 276, s 277, s 278, s 279, s 280, s 281, s 282, s 283, s 284, s 285, s 286, s 287, s 288, s 289, s 290, s 291, s 292, s 293, s 294, s 295, s 296, s 297, s 298, s 299, s 300, s 301, s 302, s 303, s 304, s 305, s 306, s 307, s 308, s 309, s 310, s 311, s 312, s 313, s 314, s 315, s 316, s 317, s 318, s 319, s 320, s 321, s 322, s 323, s 324, s 325, s 326, s 327, s 328, s 329, s 330, s 331, s 332, s 333, s 334, s 335, s 336, s 337, s 338, s 339], defers := ds } := by
  unfold rdF
  rfl
theorem act_eta (A : Act) (ds : List Deferred) (hs : A.tmps.size = 340) (hd : A.defers = ds) : A = rdF ds (fun k => A.tmps.getD k undef) := by
  obtain ⟨t, d⟩ := A
  dsimp only at hs hd
  subst hd
  unfold rdF
  congr 1
  apply Array.ext
  · rw [hs]; simp
  · intro i h1 h2
    dsimp only
    have e : ∀ h, ((List.range 340).map (fun k => t.getD k undef)).toArray[i]'h = t.getD i undef := fun h => by simp
    rw [e, Array.getD_eq_getD_getElem?, Array.getElem?_eq_getElem h1]
    rfl
theorem act_open (A : Act) (ds : List Deferred) (hs : A.tmps.size = 340) (hd : A.defers = ds) : ∃ s : Nat → Value, A = { tmps := #[s 0, s 1, s 2, s 3, s 4, s 5, s 6, s 7, s 8, s 9, s 10, s 11, s 12, s 13, s 14, s 15, s 16, s 17, s 18, s 19, s 20, s 21, s 22, s 23, s 24, s 25, s 26, s 27, s 28, s 29, s 30, s 31, s 32, s 33, s 34, s 35, s 36, s 37, s 38, s 39, s 40, s 41, s 42, s 43, s 44, s 45, s 46, s 47, s 48, s 49, s 50, s 51, s 52, s 53, s 54, s 55, s 56, s 57, s 58, s 59, s 60, s 61, s 62, s 63, s 64, s 65, s 66, s 67, s 68, s 69, s 70, s 71, s 72, s 73, s 74, s 75, s 76, s 77, s 78, s 79, s 80, s 81, s 82, s 83, s 84, s 85, s 86, s 87, s 88, s 89, s 90, s 91, s 92, s 93, s 94, s 95, s 96, s 97, s 98, s 99, s 100, s 101, s 102, s 103, s 104, s 105, s 106, s 107, s 108, s 109, s 110, s 111, s 112, s 113, s 114, s 115, s 116, s 117, s 118, s 119, s 120, s 121, s 122, s 123, s 124, s 125, s 126, s 127, s 128, s 129, s 130, s 131, s 132, s 133, s 134, s 135, s 136, s 137, s 138, s 139, s 140, s 141, s 142, s 143, s 144, s 145, s 146, s 147, s 148, s 149, s 150, s 151, s 152, s 153, s 154, s 155, s 156, s 157, s 158, s 159, s 160, s 161, s 162, s 163, s 164, s 165, s 166, s 167, s 168, s 169, s 170, s 171, s 172, s 173, s 174, s 175, s 176, s 177, s 178, s 179, s 180, s 181, s 182, s 183, s 184, s 185, s 186, s 187, s 188, s 189, s 190, s 191, s 192, s 193, s 194, s 195, s 196, s 197, s 198, s 199, s 200, s 201, s 202, s 203, s 204, s 205, s 206, s 207, s 208, s 209, s 210, s 211, s 212, s 213, s 214, s 215, s 216, s 217, s 218, s 219, s 220, s 221, s 222, s 223, s 224, s 225, s 226, s 227, s 228, s 229, s 230, s 231, s 232, s 233, s 234, s 235, s 236, s 237, s 238, s 239, s 240, s 241, s 242, s 243, s 244, s 245, s 246, s 247, s 248, s 249, s 250, s 251, s 252, s 253, s 254, s 255, s 256, s 257, s 258, s 259, s 260, s 261, s 262, s 263, s 264, s 265, s 266, s 267, s 268, s 269, s 270, s 271, s 272, s 273, s 274, s 275, s 276, s 277, s 278, s 279, s 280, s 281, s 282, s 283, s 284, s 285, s 286, s 287, s 288, s 289, s 290, s 291, s 292, s 293, s 294, s 295, s 296, s 297, s 298, s 299, s 300, s 301, s 302, s 303, s 304, s 305, s 306, s 307, s 308, s 309, s 310, s 311, s 312, s 313, s 314, s 315, s 316, s 317, s 318, s 319, s 320, s 321, s 322, s 323, s 324, s 325, s 326, s 327, s 328, s 329, s 330, s 331, s 332, s 333, s 334, s 335, s 336, s 337, s 338, s 339], defers := ds } ∧ ∀ k, A.tmps.getD k undef = s k :=
  ⟨fun k => A.tmps.getD k undef, (act_eta A ds hs hd).trans (rdF_lit ds _), fun _ => rfl⟩
/-- What is asked of the end. -/
def QV (W : World) : Exit → Act → World → Prop := bodyPost Tryd.prog Tryd.f3 fun e w' => e = .returned (.bool true) ∧ Below W.heap.size W w'
/-- What is handed on behind a statement. -/
def Nxt (k : Nat) (W : World) (K : Act → World → Prop) : Prop := ∀ a w, Code.wp Tryd.prog (tailN k bodyV) (QV W) a w → K a w
end Go.Proofs.YtklamaibinjcmaaDoor

/-
  Verify: the sizes of what is handed in.
-/
namespace Go.Proofs.YtklamaibinjcmaaDoor
open Go.ChangeShapes Go.WideShapes Go.ChangeAt Go.RowKit
set_option maxRecDepth 100000
section
variable {H : Type} {enc : TypeId × Value → H} {W : World}
/-- What is laid lies within reach. -/
def Wts (t : TypeId) (y : DataW H × List MemPlace) : Prop := ∀ k ∈ y.1.weights Tryd.prog t, k ≤ reachBytes
theorem w_all {e : TypeId} : ∀ {l : List (DataW H)} {i : Nat} {d : DataW H}, l[i]? = some d → ∀ n ∈ d.weights Tryd.prog e, n ∈ DataW.weightsAll Tryd.prog e l
  | [], _, _, h, _, _ => by simp at h
  | x :: r, 0, d, h, n, hn => by
    simp only [List.getElem?_cons_zero, Option.some.injEq] at h
    subst h
    simp only [DataW.weightsAll, List.mem_append]
    exact Or.inl hn
  | x :: r, i + 1, d, h, n, hn => by
    simp only [List.getElem?_cons_succ] at h
    simp only [DataW.weightsAll, List.mem_append]
    exact Or.inr (w_all h n hn)
theorem slice_size {t e : TypeId} {b c1 m n c : Nat} {ao : Option Addr} {y : DataW H × List MemPlace} (ht : Tryd.prog.underlying t = some (.slice e)) (hb : Tryd.prog.bytesOf e = b) (hc1 : Tryd.prog.cellsOf e = c1) (h : DataW.trod enc Tryd.prog W 0 (fun _ => true) true m t [.slice ao n c] = some y) (hw : Wts t y) :
    n * b ≤ 140737488351232 ∧ ∀ i, i < n → ∃ a cs' y' m', ao = some a ∧ W.cells? 0 (a.add (i * c1)) c1 = some cs' ∧ DataW.trod enc Tryd.prog W 0 (fun _ => true) true m' e cs' = some y' ∧ Wts e y' := by
  rcases DataW.trod_slice ht h with ⟨e0, _⟩ | ⟨a, len, cap, elems, rest, m', _, ecs, hx, _, hl, hm, hlen, hel, _, _⟩
  · simp only [List.cons.injEq, Value.slice.injEq, and_true] at e0
    obtain ⟨_, rfl, _⟩ := e0
    exact ⟨by simp, fun i hi => absurd hi (by omega)⟩
  · simp only [List.cons.injEq, Value.slice.injEq, and_true] at ecs
    obtain ⟨rfl, rfl, rfl⟩ := ecs
    have hW : ∀ k ∈ (elems.length + rest.length) * b :: (DataW.weightsAll Tryd.prog e (elems.map (·.1)) ++ DataW.weightsAll Tryd.prog e (rest.map (·.1))), k ≤ reachBytes := fun k hk => hw k (by
      rw [hx]
      unfold DataW.weights
      rw [ht]
      dsimp only
      rw [hb, List.length_map, List.length_map]
      exact hk)
    refine ⟨?_, fun i hi => ?_⟩
    · have h1 := hW _ List.mem_cons_self
      unfold reachBytes at h1
      have h2 : n * b ≤ (elems.length + rest.length) * b := Nat.mul_le_mul_right b (by omega)
      omega
    · have h1 := hel i hi
      rw [List.getElem?_eq_getElem (by omega), hc1, Option.bind_eq_some_iff] at h1
      obtain ⟨cs', hcs', ht'⟩ := h1
      exact ⟨a, cs', _, m', rfl, hcs', ht', fun k hk => hW k (List.mem_cons_of_mem _ (List.mem_append_left _ (w_all (i := i) (by rw [List.getElem?_map, List.getElem?_eq_getElem (by omega)]; rfl) k hk)))⟩
theorem struct_part {t : TypeId} {fs : Array Field} {f : Field} (i : Nat) (ft : TypeId) (fo : Nat) {m : Nat} {cs : List Value} {x : DataW H × List MemPlace} (ht : Tryd.prog.underlying t = some (.struct fs)) (hf : fs[i]? = some f) (hft : f.type = ft) (hfo : f.offset = fo) (h : DataW.trod enc Tryd.prog W 0 (fun _ => true) true m t cs = some x) (hw : Wts t x) :
    ∃ m' y', DataW.trod enc Tryd.prog W 0 (fun _ => true) true m' ft ((cs.drop fo).take (Tryd.prog.cellsOf ft)) = some y' ∧ Wts ft y' := by
  subst hft hfo
  obtain ⟨xs, n, _, rfl, hl, hlen, hfs⟩ := DataW.trod_struct ht h
  have hi : i < xs.length := by rw [hlen]; exact (Array.getElem?_eq_some_iff.1 hf).1
  refine ⟨n, xs[i], (hfs i f hf).trans (List.getElem?_eq_getElem hi), fun k hk => hw k ?_⟩
  unfold DataW.weights
  rw [ht]
  exact DataW.weights_mem_each (j := i) (t := f.type) (d := xs[i].1) (by simp [hf]) (by simp [List.getElem?_eq_getElem hi]) k hk
theorem drop1 {cs : List Value} {k : Nat} {v : Value} (h : cs[k]? = some v) : (cs.drop k).take 1 = [v] := by
  obtain ⟨hk, rfl⟩ := List.getElem?_eq_some_iff.1 h
  rw [List.drop_eq_getElem_cons hk]
  rfl
theorem nums_size {Q : Nat → Prop} {m : Nat} {v : Value} {l : List Int} {y : DataW H × List MemPlace} (h : DataW.trod enc Tryd.prog W 0 (fun _ => true) true m 32 [v] = some y) (hw : Wts 32 y) (hn : Nl Q W v l) : l.length ≤ 18000000000000 := by
  obtain ⟨ao, c, rfl, -⟩ := hn
  have := (slice_size (b := 8) (c1 := 1) Tryd.underlying32 (by kernel_rfl) (by kernel_rfl) h hw).1
  omega
theorem code_size {Q : Nat → Prop} {m : Nat} {v : Value} {l : List Ins} {y : DataW H × List MemPlace} (h : DataW.trod enc Tryd.prog W 0 (fun _ => true) true m 26 [v] = some y) (hw : Wts 26 y) (hn : Il Q W v l) : l.length ≤ 8800000000000 := by
  obtain ⟨ao, c, rfl, -⟩ := hn
  have := (slice_size (b := 16) (c1 := 2) Tryd.underlying26 (by kernel_rfl) (by kernel_rfl) h hw).1
  omega
theorem rt_size {Q : Nat → Prop} {m : Nat} {cs : List Value} {v : Value} {l : List Ins} {y : DataW H × List MemPlace} (h : DataW.trod enc Tryd.prog W 0 (fun _ => true) true m 28 cs = some y) (hw : Wts 28 y) (hc : cs[3]? = some v) (hn : Il Q W v l) : l.length ≤ 8800000000000 := by
  obtain ⟨m', y', h1, h2⟩ := struct_part 3 26 3 Tryd.underlying28 rfl rfl rfl h hw
  have cC : Tryd.prog.cellsOf 26 = 1 := by kernel_rfl
  rw [cC, drop1 hc] at h1
  exact code_size h1 h2 hn
theorem rts_size {Q : Nat → Prop} {m : Nat} {v : Value} {l : List Rt} {y : DataW H × List MemPlace} (h : DataW.trod enc Tryd.prog W 0 (fun _ => true) true m 23 [v] = some y) (hw : Wts 23 y) (hr : Rts Q W v l) : l.length ≤ 2600000000000 ∧ ∀ r ∈ l, r.code.length ≤ 8800000000000 := by
  obtain ⟨ao, c, rfl, -, -, h4⟩ := hr
  obtain ⟨h1, h2⟩ := slice_size (b := 56) (c1 := 4) Tryd.underlying23 (by kernel_rfl) (by kernel_rfl) h hw
  refine ⟨by omega, fun r hr => ?_⟩
  obtain ⟨i, hi, rfl⟩ := List.mem_iff_getElem.1 hr
  obtain ⟨a, cs', y', m', rfl, hcs, ht, hwt⟩ := h2 i hi
  obtain ⟨g, o, e, -, hh⟩ := h4 (by omega)
  obtain rfl : a = ⟨g, o, none⟩ := by simpa using e
  obtain ⟨-, -, vc, -, -, -, c3, il⟩ := hh i hi
  obtain ⟨_, _, hcell⟩ := World.cells?_some hcs
  have h3 := hcell 3 (by omega)
  rw [Go.WideShapes.add_plain, Go.WideShapes.add_plain, c3] at h3
  exact rt_size ht hwt h3.symm il
theorem sy_size {Q : Nat → Prop} {m g o : Nat} {cs : List Value} {s : Sy} {y : DataW H × List MemPlace} (h : DataW.trod enc Tryd.prog W 0 (fun _ => true) true m 60 cs = some y) (hw : Wts 60 y) (hc : ∀ j, j < 8 → W.cell? ⟨g, o + j, none⟩ = cs[j]?) (hs : SyAt Q W g o s) : Wd.Small5 s := by
  obtain ⟨-, -, v1, v2, v3, v4, vc, c0, c1, c2, c3, -, -, -, c7, n1, n2, n3, n4, il⟩ := hs
  have cN : Tryd.prog.cellsOf 32 = 1 := by kernel_rfl
  have cR : Tryd.prog.cellsOf 28 = 4 := by kernel_rfl
  obtain ⟨m0, y0, a0, b0⟩ := struct_part 0 32 0 Tryd.underlying60 rfl rfl rfl h hw
  obtain ⟨m1, y1, a1, b1⟩ := struct_part 1 32 1 Tryd.underlying60 rfl rfl rfl h hw
  obtain ⟨m2, y2, a2, b2⟩ := struct_part 2 32 2 Tryd.underlying60 rfl rfl rfl h hw
  obtain ⟨m3, y3, a3, b3⟩ := struct_part 3 32 3 Tryd.underlying60 rfl rfl rfl h hw
  obtain ⟨m4, y4, a4, b4⟩ := struct_part 4 28 4 Tryd.underlying60 rfl rfl rfl h hw
  rw [cN] at a0 a1 a2 a3
  rw [cR] at a4
  rw [drop1 ((hc 0 (by omega)).symm.trans c0)] at a0
  rw [drop1 ((hc 1 (by omega)).symm.trans c1)] at a1
  rw [drop1 ((hc 2 (by omega)).symm.trans c2)] at a2
  rw [drop1 ((hc 3 (by omega)).symm.trans c3)] at a3
  have k7 : ((cs.drop 4).take 4)[3]? = some vc := by
    rw [List.getElem?_take_of_lt (by omega), List.getElem?_drop]
    exact (hc 7 (by omega)).symm.trans c7
  exact ⟨nums_size a0 b0 n1, nums_size a1 b1 n2, nums_size a2 b2 n3, nums_size a3 b3 n4, rt_size a4 b4 k7 il⟩
theorem syss_size {Q : Nat → Prop} {m : Nat} {v : Value} {l : List Sy} {y : DataW H × List MemPlace} (h : DataW.trod enc Tryd.prog W 0 (fun _ => true) true m 22 [v] = some y) (hw : Wts 22 y) (hr : Sys Q W v l) : l.length ≤ 930000000000 ∧ ∀ s ∈ l, Wd.Small5 s := by
  obtain ⟨ao, c, rfl, -, -, h4⟩ := hr
  obtain ⟨h1, h2⟩ := slice_size (b := 152) (c1 := 8) Tryd.underlying22 (by kernel_rfl) (by kernel_rfl) h hw
  refine ⟨by omega, fun r hr => ?_⟩
  obtain ⟨i, hi, rfl⟩ := List.mem_iff_getElem.1 hr
  obtain ⟨a, cs', y', m', rfl, hcs, ht, hwt⟩ := h2 i hi
  obtain ⟨g, o, e, -, hh⟩ := h4 (by omega)
  obtain rfl : a = ⟨g, o, none⟩ := by simpa using e
  obtain ⟨_, _, hcell⟩ := World.cells?_some hcs
  refine sy_size ht hwt (fun j hj => ?_) (hh i hi)
  have h3 := hcell j (by omega)
  rwa [Go.WideShapes.add_plain, Go.WideShapes.add_plain] at h3
end
end Go.Proofs.YtklamaibinjcmaaDoor
