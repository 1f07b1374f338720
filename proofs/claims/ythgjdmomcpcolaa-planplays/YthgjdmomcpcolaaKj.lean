/-
  Plan's law: lent, back.
-/
import Derived.Test.YthgjdmomcpcolaaKa
import Derived.Deep.DeepAppendWide
namespace Go.Proofs.Ythgjdmomcpcolaa
open Go.RowKit
set_option maxRecDepth 100000
theorem wpList_append_wide {w : World} {ops : Array Oper} {rest : List Oper} {o : Oper} {a : Act} {Q : Exit → Act → World → Prop} (hgd : o.guard = none) (s x : Operand)
    (ho : o.op = .call { callee := .builtin .append, args := #[s, x], argTypes := #[23, 23] })
    (base : Nat) (v : Value) (n : Nat) (xs : List Value) (hs : a.eval s = v) (hown : w.ownsRow base 3 1 v n xs) (ad : Addr) (c : Nat) (y : Int) (hx : a.eval x = .slice (some ad) 1 c) (hy : ∀ j u, [Value.int .i64 y][j]? = some u → w.cell? (ad.add j) = some u) (hb : n ≤ 17592186044480) (hbase : base ≤ w.heap.size)
    (h : ∀ v' w', w'.ownsRow base 3 1 v' (n + 1) (xs ++ [.int .i64 y]) → w.grownBy w' v.ownBlock → wpList Try.prog ops Q rest (a.put o.dst v') w') :
    wpList Try.prog ops Q (o :: rest) a w := by
  refine wpList_plain hgd fun K hK => ?_
  obtain ⟨i0, hi, hz0, hz1, hz2⟩ := info_parts info3
  obtain ⟨v', w', hr, h2, h3, -⟩ := run_append_own_wide (P := Try.prog) w base 23 o.type 3 i0 (.int .i64 0) 1 8 Try.underlying23 hi hz0 hz1 hz2 rfl (by decide) v n xs hown ad 1 c [.int .i64 y] rfl hy (fun u hu => by rw [List.mem_singleton.1 hu]; rfl) (by unfold maxLen; omega) (by omega) hbase
  unfold Oper.wp execOp
  simp only [ho, resolve, invoke, builtin, Sem.run_bind, Sem.run_pure, Result.andThen_ok, List.map_toArray, List.map_cons, List.map_nil, hs, hx, hr]
  exact hK _ _ (h v' w' h2 h3)
/-- What stands behind what is lent. -/
def tl (i : Nat) : List Int := (List.range i).map fun j : Nat => 70 + (j : Int)
theorem tl_len (i : Nat) : (tl i).length = i := by simp [tl]
theorem tl_add (i : Nat) : tl (i + 1) = tl i ++ [70 + (i : Int)] := by simp [tl, List.range_succ]
theorem tl_at (i j : Nat) (h : j < (tl i).length) : (tl i)[j] = 70 + (j : Int) := by simp [tl]
/-- Numbers that are lent. -/
def Ln (w : World) (B : Nat) (v : Value) (l : List Int) : Prop := ∃ g c, v = .slice (some ⟨g, 0, none⟩) l.length c ∧ w.ownsRow B 3 1 (.slice (some ⟨g, 0, none⟩) (l.length + 8) c) (l.length + 8) (zc (l ++ tl 8)) ∧ l.length + 8 ≤ c
theorem Ln.row {w : World} {B : Nat} {v : Value} {l : List Int} (h : Ln w B v l) : Rw w B v l := by
  obtain ⟨g, c, rfl, h2, h3⟩ := h
  have := own_cut h2 (k := l.length) (by omega)
  rw [zc_take, List.take_left] at this
  exact this
set_option maxHeartbeats 4000000 in
theorem lent_any {w : World} {v : Value} {l : List Int} (h : Rl w v l) (hn : l.length * 8 ≤ 140737488355328) : Calls Try.prog 10 #[v] w fun e w' => ∃ v', e = .returned v' ∧ Ln w' w.heap.size v' l ∧ Below w.heap.size w w' := by
  have H := hide h
  have HN := hide hn
  obtain ⟨ao, c, rfl, hc1, hc2, -⟩ := h
  obtain ⟨n, hn'⟩ : ∃ n, n = l.length := ⟨_, rfl⟩
  have hnb : (n : Int) ≤ 17592186044416 := by omega
  have HNE := hide hn'
  rw [← hn'] at hc1
  have H' : Hid (Rl w (.slice ao n c) l) := by
    rw [hn']
    exact H.out
  rw [← hn']
  clear hn hn' H
  go_enter Try.func10, Try.ntmps10
  go_wp2_with (at_builtin; refine wpList_append_nums rfl _ _ rfl w.heap.size (.slice none 0 0) 0 [] rfl (World.ownsRow_nil _ _ _ _) (.slice ao n c) l rfl ?o1 ?o2 ?o3 ?_)
  case o1 => exact H'.out
  case o2 => have := HN.out; omega
  case o3 => omega
  intro v1 w1 h1 hg1 _
  have R0 : Hid (w1.ownsRow w.heap.size 3 1 v1 (n + 0) (zc (l ++ tl 0)) ∧ Below w.heap.size w w1) := by
    refine ⟨?_, (Below.refl _ w).grown hg1 (Nat.le_refl _) (fun k e => by simp [Value.ownBlock] at e)⟩
    rw [HNE.out]
    simpa [tl] using h1
  clear h1 hg1
  go_wp2_with fail
  go_loopw [3, 4] (fun v3 v4 W => ∃ i : Nat, i ≤ 8 ∧ v4 = .int .i64 (i : Int) ∧ Hid (W.ownsRow w.heap.size 3 1 v3 (n + i) (zc (l ++ tl i)) ∧ Below w.heap.size w W)) (fun _ v4 _ => 8 - (intOf v4).toNat)
  case atStart => exact ⟨0, by omega, rfl, R0.out⟩
  case round =>
    obtain ⟨i, hi, rfl, HR⟩ := hrel
    clear R0
    obtain ⟨h3, h4⟩ := HR.out
    obtain ⟨a3, c3, rfl⟩ := own_len h3
    by_cases hlt : i < 8
    · have t1 : (i : Int) < 8 := by omega
      clear h3 h4
      go_wp2_with (at_builtin; refine wpList_append_wide rfl _ _ rfl w.heap.size (.slice a3 (n + i) c3) (n + i) (zc (l ++ tl i)) rfl ?p1 ⟨wr.heap.size, 0, none⟩ 1 (70 + (i : Int)) rfl (lit_cells wr _ 3) ?p2 ?p3 ?_)
      case p1 => exact own_later HR.out.1 (below_alloc wr _)
      case p2 => omega
      case p3 => have := HR.out.2.size; simp; omega
      intro v5 w5 h5 hg5
      have HR5 : Hid (w5.ownsRow w.heap.size 3 1 v5 (n + i + 1) (zc (l ++ tl (i + 1))) ∧ Below w.heap.size w w5) := by
        refine ⟨?_, ?_⟩
        · rw [tl_add, ← List.append_assoc, zc_append]
          exact h5
        · have hb := below_on HR.out.2 (below_alloc wr (.cells #[.int .i64 (70 + (i : Int))] 3))
          exact hb.grown hg5 hb.size (fun k e => (HR.out.1.lt k e).1)
      obtain ⟨a5, c5, rfl⟩ := own_len h5
      clear h5 hg5 HR
      go_wp2_with fail
      go_roundw
      case rel => exact ⟨i + 1, by omega, rfl, HR5.out⟩
      case measure => simp only [intOf]; omega
    · have t1 : ¬ (i : Int) < 8 := by omega
      obtain rfl : i = 8 := by omega
      obtain ⟨g3, c3', e0, hd1, hd2⟩ := own_form h3 (by omega)
      simp only [Value.slice.injEq, true_and] at e0
      obtain ⟨rfl, rfl⟩ := e0
      have t2 : (n : Int) ≤ (c3 : Int) := by omega
      have HD := hide hd1
      clear h3 h4
      go_wp2_with fail
      go_ret
      refine ⟨_, rfl, ⟨g3, c3, by rw [HNE.out]; rfl, ?_, by rw [← HNE.out]; exact HD.out⟩, HR.out.2⟩
      rw [← HNE.out]
      exact HR.out.1
theorem bset {l : List Int} {i n : Nat} (h : i < n) (hl : l.length = n) : (List.replicate i (-3) ++ l.drop i).set i (-3) = List.replicate (i + 1) (-3) ++ l.drop (i + 1) := by
  rw [List.set_append_right _ _ (by simp), List.length_replicate, Nat.sub_self, List.drop_eq_getElem_cons (by omega), List.set_cons_zero, List.replicate_succ', List.append_assoc]
  rfl
set_option maxHeartbeats 8000000 in
/-- What was lent comes back; its owner writes over it. -/
theorem back_any {w : World} {B : Nat} {v u : Value} {l : List Int} (h : Ln w B v l) (hu : Rl w u l) (hap : 0 < l.length → ∀ k, v.ownBlock = some k → u.ownBlock ≠ some k) (hn : l.length * 8 ≤ 140737488355328) : Calls Try.prog 12 #[v, u] w fun e w' => e = .returned (.bool true) ∧ Rw w' B v (List.replicate l.length (-3)) ∧ Mv w w' (fun k => v.ownBlock = some k) := by
  obtain ⟨g, c, rfl, hr, hc⟩ := h
  obtain ⟨hc1, hc2⟩ := own_cap hr
  obtain ⟨au, cu, rfl, hu1, hu2, hu3⟩ := hu
  have HAP : Hid (0 < l.length → ∀ gu o, au = some ⟨gu, o, none⟩ → gu ≠ g) := fun h0 gu o e x => by
    subst e
    subst x
    exact hap h0 gu rfl rfl
  have HU3 := hide hu3
  obtain ⟨n, hn'⟩ : ∃ n, n = l.length := ⟨_, rfl⟩
  have HNE := hide hn'
  rw [← hn'] at hr hu1 hc1 ⊢
  have hnb : (n : Int) ≤ 17592186044416 := by omega
  have t2 : (n : Int) + 8 ≤ (c : Int) := by omega
  have R0 : Hid (w.ownsRow B 3 1 (.slice (some ⟨g, 0, none⟩) (n + 8) c) (n + 8) (zc (List.replicate 0 (-3) ++ (l ++ tl 8).drop 0)) ∧ Mv w w (fun k => k = g)) := ⟨by simpa using hr, Mv.refl _ _⟩
  have hlen : (l ++ tl 8).length = n + 8 := by rw [List.length_append, tl_len, HNE.out]
  have HLEN := hide hlen
  clear hr hu3 hn hn' hap hc hc1 hlen
  go_enter Try.func12, Try.ntmps12
  go_wp2_with fail
  go_loopw [6, 7] (fun v6 v7 W => ∃ i : Nat, i ≤ n + 8 ∧ v6 = .bool true ∧ v7 = .int .i64 (i : Int) ∧ Hid (W.ownsRow B 3 1 (.slice (some ⟨g, 0, none⟩) (n + 8) c) (n + 8) (zc (List.replicate i (-3) ++ (l ++ tl 8).drop i)) ∧ Mv w W (fun k => k = g))) (fun _ v7 _ => n + 8 - (intOf v7).toNat)
  case atStart => exact ⟨0, by omega, rfl, rfl, R0.out⟩
  case round =>
    obtain ⟨i, hi, rfl, rfl, HR⟩ := hrel
    clear R0
    by_cases hlt : i < n + 8
    · have t3 : (i : Int) < (n : Int) + 8 := by omega
      have hlX : (List.replicate i (-3 : Int) ++ (l ++ tl 8).drop i).length = n + 8 := by
        have := HLEN.out
        rw [List.length_append, List.length_replicate, List.length_drop]
        omega
      have c1 : wr.cell? ⟨g, i, none⟩ = some (.int .i64 ((l ++ tl 8)[i]'(by have := HLEN.out; omega))) := by
        rw [HR.out.1.cellAt i (by omega), zc_at _ i (by omega)]
        congr 2
        rw [List.getElem_append_right (by simp)]
        simp
      have f1 := HR.out.1.frozenAt i
      have HN1 : Hid (∀ k, (wr.drewN k).ownsRow B 3 1 (.slice (some ⟨g, 0, none⟩) (n + 8) c) (n + 8) (zc (List.replicate i (-3) ++ (l ++ tl 8).drop i)) ∧ Mv w (wr.drewN k) (fun k => k = g)) := fun k => ⟨own_later HR.out.1 (below_drawn wr k), HR.out.2.later (below_drawn wr k)⟩
      have HST : Hid (∀ W : World, W.ownsRow B 3 1 (.slice (some ⟨g, 0, none⟩) (n + 8) c) (n + 8) (zc (List.replicate i (-3) ++ (l ++ tl 8).drop i)) ∧ Mv w W (fun k => k = g) → (W.setCell ⟨g, i, none⟩ (.int .i64 (-3))).ownsRow B 3 1 (.slice (some ⟨g, 0, none⟩) (n + 8) c) (n + 8) (zc (List.replicate (i + 1) (-3) ++ (l ++ tl 8).drop (i + 1))) ∧ Mv w (W.setCell ⟨g, i, none⟩ (.int .i64 (-3))) (fun k => k = g)) := fun W ⟨h1, h2⟩ => by
        refine ⟨?_, h2.set rfl _ _⟩
        have := (h1.stored i (.int .i64 (-3))).1
        rw [zc_set, bset (n := n + 8) hlt HLEN.out] at this
        exact this
      by_cases hil : i < n
      · have t4 : (i : Int) < (n : Int) := by omega
        have hil' : i < l.length := by have := HNE.out; omega
        rw [List.getElem_append_left hil'] at c1
        obtain ⟨gu, ou, rfl, hcu⟩ := HU3.out (by omega)
        have e2 : wr.cell? ⟨gu, ou + i, none⟩ = some (.int .i64 l[i]) := HR.out.2.cell (hcu i hil') (HAP.out (by omega) gu ou rfl)
        generalize l[i] = x at c1 e2
        clear hcu hlX
        go_wp2_with fail
        go_quiet (fail)
        go_wp2_with fail
        exact ⟨⟨i + 1, by omega, rfl, rfl, HST.out _ (HN1.out _)⟩, by simp only [intOf]; omega⟩
      · have t4 : ¬ (i : Int) < (n : Int) := by omega
        have hil' : l.length ≤ i := by have := HNE.out; omega
        have c2 : wr.cell? ⟨g, i, none⟩ = some (.int .i64 (70 + (i : Int) - (n : Int))) := by
          rw [c1, List.getElem_append_right hil', tl_at]
          have := HNE.out
          congr 2
          omega
        clear c1 hlX
        have HW := hide (HST.out _ HR.out)
        clear HST HN1
        go_wp2_with fail
        exact ⟨⟨i + 1, by omega, rfl, rfl, HW.out⟩, by simp only [intOf]; omega⟩
    · have t3 : ¬ (i : Int) < (n : Int) + 8 := by omega
      obtain rfl : i = n + 8 := by omega
      have HE : Hid (Rw wr B (.slice (some ⟨g, 0, none⟩) n c) (List.replicate n (-3)) ∧ Mv w wr (fun k => k = g)) := by
        refine ⟨?_, HR.out.2⟩
        have := own_cut HR.out.1 (k := n) (by omega)
        rw [List.drop_eq_nil_of_le (by have := HLEN.out; omega), List.append_nil, zc_take, List.take_replicate, Nat.min_eq_left (by omega)] at this
        unfold Rw
        rw [List.length_replicate]
        exact this
      clear HR
      go_wp2_with fail
      go_ret
      refine ⟨rfl, ?_, ?_⟩
      · exact HE.out.1
      · exact HE.out.2.mono (fun k _ e => by rw [e]; rfl)
end Go.Proofs.Ythgjdmomcpcolaa
