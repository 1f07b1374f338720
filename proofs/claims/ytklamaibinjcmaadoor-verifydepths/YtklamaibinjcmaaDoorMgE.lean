import Derived.Test.YtklamaibinjcmaaDoorMgB
import Derived.Test.YtklamaibinjcmaaDoorMgD
/-
  Verify: isBelow, isThere, isJump; next.
-/
namespace Go.Proofs.YtklamaibinjcmaaDoor
open Go.RowKit
set_option maxRecDepth 100000
theorem isbelow_any (a : Int) (n : Nat) (w : World) (_hn : (n : Int) ≤ 9223372036854775807) : Calls Tryd.prog 79 #[.int .i64 a, .int .i64 (n : Int)] w fun e w' => e = .returned (.bool (decide (0 ≤ a ∧ a < (n : Int)))) ∧ w' = w := by
  by_cases h0 : 0 ≤ a
  · have f0 : decide (0 ≤ a) = true := decide_eq_true h0
    by_cases h1 : a < (n : Int)
    · rw [decide_eq_true (show 0 ≤ a ∧ a < (n : Int) from ⟨h0, h1⟩)]
      go_enter Tryd.func79, Tryd.ntmps79
      go_wp2_with fail
      go_ret
      exact ⟨rfl, rfl⟩
    · rw [decide_eq_false (show ¬ (0 ≤ a ∧ a < (n : Int)) from fun c => h1 c.2)]
      go_enter Tryd.func79, Tryd.ntmps79
      go_wp2_with fail
      go_ret
      exact ⟨rfl, rfl⟩
  · have f0 : decide (0 ≤ a) = false := decide_eq_false h0
    rw [decide_eq_false (show ¬ (0 ≤ a ∧ a < (n : Int)) from fun c => h0 c.1)]
    go_enter Tryd.func79, Tryd.ntmps79
    go_wp2_with fail
    go_ret
    exact ⟨rfl, rfl⟩
theorem isthere_any {Q : Nat → Prop} {w : World} {vc vf : Value} {c : List Ins} (h : Il Q w vc c) (hf : ∃ a n c, vf = .slice a n c) (a : Int) : Calls Tryd.prog 64 #[.agg #[vc, vf], .int .i64 a] w fun e w' => e = .returned (.bool (thereI c a)) ∧ Below w.heap.size w w' := by
  obtain ⟨ao, co, rfl, h1, h2⟩ := h.at
  obtain ⟨af, nf, cf, rfl⟩ := hf
  obtain ⟨n, hn⟩ : ∃ n, n = c.length := ⟨_, rfl⟩
  obtain ⟨b, hb⟩ : ∃ b, b = decide (0 ≤ a ∧ a < (n : Int)) := ⟨_, rfl⟩
  have J : Hid (∀ W, Calls Tryd.prog 79 #[.int .i64 a, .int .i64 (n : Int)] W fun e w' => e = .returned (.bool b) ∧ w' = W) := fun W => by
    rw [hb]
    exact isbelow_any a n W (by omega)
  unfold thereI
  rw [← hn] at h1 ⊢
  rw [← hb]
  clear h hn hb
  go_enter Tryd.func64, Tryd.ntmps64
  go_wp2_with (go_at_call 79; refine (J.out _).mono ?_; rintro e w' ⟨rfl, rfl⟩)
  go_ret
  exact ⟨rfl, below_alloc w _⟩
theorem isjump_any (i : Ins) (w : World) : Calls Tryd.prog 54 #[insV i] w fun e w' => e = .returned (.bool (isJ i)) ∧ Below w.heap.size w w' := by
  unfold insV isJ
  by_cases h1 : i.op = 19
  · rw [decide_eq_true (show i.op = 19 ∨ i.op = 20 from .inl h1), h1]
    go_enter Tryd.func54, Tryd.ntmps54
    go_wp2_with fail
    go_ret
    exact ⟨rfl, below_alloc w _⟩
  · have f1 : (i.op == 19) = false := beq_eq_false_iff_ne.2 h1
    by_cases h2 : i.op = 20
    · rw [decide_eq_true (show i.op = 19 ∨ i.op = 20 from .inr h2)]
      rw [h2]
      go_enter Tryd.func54, Tryd.ntmps54
      go_wp2_with fail
      go_ret
      exact ⟨rfl, below_alloc w _⟩
    · have f2 : (i.op == 20) = false := beq_eq_false_iff_ne.2 h2
      rw [decide_eq_false (show ¬ (i.op = 19 ∨ i.op = 20) from fun c => c.elim h1 h2)]
      generalize i.op = x at *
      go_enter Tryd.func54, Tryd.ntmps54
      go_wp2_with fail
      go_ret
      exact ⟨rfl, below_alloc w _⟩
theorem info64 : (Tryd.prog.info? 2).map (fun i => (i.zero, i.size, i.bytes)) = some (some (.int .i64 0), 1, 8) := by kernel_rfl
/-- Numbers of 64 bits that are owned. -/
def zq (l : List Int) : List Value := l.map fun z => Value.int .i64 z
theorem zq_len (l : List Int) : (zq l).length = l.length := by simp [zq]
theorem lit64 (w : World) (x : Value) (t : TypeId) : ∀ j u, [x][j]? = some u → (w.alloc (.cells #[x] t)).cell? ((⟨w.heap.size, 0, none⟩ : Addr).add j) = some u := fun j u h => by
  have hj : j = 0 := by
    have := (List.getElem?_eq_some_iff.1 h).1
    simpa using this
  subst hj
  rw [show (⟨w.heap.size, 0, none⟩ : Addr).add 0 = ⟨w.heap.size, 0, none⟩ by simp [Addr.add], cell_of_row _ _ _ _ t (0, 0) (heap_alloc_new w _), ← h]
  rfl
end Go.Proofs.YtklamaibinjcmaaDoor

/-
  Verify: next, onward.
-/
namespace Go.Proofs.YtklamaibinjcmaaDoor
open Go.RowKit
set_option maxRecDepth 100000
/-- One number is put behind numbers of 64 bits. -/
theorem append64 {w : World} {ops : Array Oper} {rest : List Oper} {o : Oper} {a : Act} {Q : Exit → Act → World → Prop} (hgd : o.guard = none) (s x : Operand)
    (ho : o.op = .call { callee := .builtin .append, args := #[s, x], argTypes := #[143, 143] })
    (base : Nat) (v : Value) (n : Nat) (xs : List Value) (hs : a.eval s = v) (hown : w.ownsRow base 2 1 v n xs) (ad : Addr) (c : Nat) (y : Int) (hx : a.eval x = .slice (some ad) 1 c) (hy : ∀ j u, [Value.int .i64 y][j]? = some u → w.cell? (ad.add j) = some u) (hb : n ≤ 1000) (hbase : base ≤ w.heap.size)
    (h : ∀ v' w', w'.ownsRow base 2 1 v' (n + 1) (xs ++ [.int .i64 y]) → w.grownBy w' v.ownBlock → wpList Tryd.prog ops Q rest (a.put o.dst v') w') :
    wpList Tryd.prog ops Q (o :: rest) a w := by
  refine wpList_plain hgd fun K hK => ?_
  obtain ⟨i0, hi, hz0, hz1, hz2⟩ := info_parts info64
  obtain ⟨v', w', hr, h2, h3, -, -⟩ := run_append_own_at (P := Tryd.prog) w base 143 o.type 2 i0 (.int .i64 0) 1 8 Tryd.underlying143 hi hz0 hz1 hz2 rfl (by decide) v n xs hown ad 1 c [.int .i64 y] rfl hy (fun u hu => by rw [List.mem_singleton.1 hu]; rfl) (by unfold maxLen; omega) (by omega) hbase
  unfold Oper.wp execOp
  simp only [ho, resolve, invoke, builtin, Sem.run_bind, Sem.run_pure, Result.andThen_ok, List.map_toArray, List.map_cons, List.map_nil, hs, hx, hr]
  exact hK _ _ (h v' w' h2 h3)
theorem iat_eq {c : List Ins} {p : Nat} (h : p < c.length) : iat c p = c[p] := by
  unfold iat
  rw [List.getD_eq_getElem?_getD, List.getElem?_eq_getElem h]
  rfl
set_option maxHeartbeats 4000000 in
theorem next_any {Q : Nat → Prop} {w : World} {vc vf : Value} {c : List Ins} (h : Il Q w vc c) (hf : ∃ a n c, vf = .slice a n c) (p : Nat) (hp : p < c.length) : Calls Tryd.prog 65 #[.agg #[vc, vf], .int .i64 (p : Int)] w fun e w' => ∃ v, e = .returned v ∧ w'.ownsRow w.heap.size 2 1 v (nextI c p).length (zq (nextI c p)) ∧ Below w.heap.size w w' := by
  obtain ⟨ao, co, rfl, h1, h2⟩ := h.at
  obtain ⟨af, nf, cf, rfl⟩ := hf
  obtain ⟨g, o, rfl, hq, d1, d2, i1, i2⟩ := h.nth hp
  rw [← iat_eq hp] at d1 d2 i1 i2
  obtain ⟨n, hn⟩ : ∃ n, n = c.length := ⟨_, rfl⟩
  rw [← hn] at h1 hp ⊢
  have hpn : (p : Int) < (n : Int) := by omega
  have hgl : g < w.heap.size := World.block_lt_of_cell? w _ d1
  obtain ⟨op, hop⟩ : ∃ op, op = (iat c p).op := ⟨_, rfl⟩
  obtain ⟨av, hav⟩ : ∃ av, av = (iat c p).a := ⟨_, rfl⟩
  have HNX : Hid (nextI c p = if op = 22 ∨ op = 23 then [] else if op = 20 then [(p : Int) + 1, av] else if op = 19 then [av] else [(p : Int) + 1]) := by
    rw [hop, hav]
    rfl
  rw [← hop] at d1 i1
  rw [← hav] at d2 i2
  obtain ⟨L, hL⟩ : ∃ L, L = nextI c p := ⟨_, rfl⟩
  rw [← hL] at HNX ⊢
  clear h hn hop hav hL hq i1
  by_cases c1 : op = 22 ∨ op = 23
  · rw [if_pos c1] at HNX
    rw [HNX.out]
    clear HNX
    rcases c1 with rfl | rfl
    · go_enter Tryd.func65, Tryd.ntmps65
      go_wp2_with fail
      go_ret
      exact ⟨_, rfl, World.ownsRow_nil _ _ _ _, below_on (below_alloc w _) (below_alloc _ _)⟩
    · go_enter Tryd.func65, Tryd.ntmps65
      go_wp2_with fail
      go_ret
      exact ⟨_, rfl, World.ownsRow_nil _ _ _ _, below_on (below_alloc w _) (below_alloc _ _)⟩
  · rw [if_neg c1] at HNX
    have c22 : (op == 22) = false := beq_eq_false_iff_ne.2 (fun e => c1 (.inl e))
    have c23 : (op == 23) = false := beq_eq_false_iff_ne.2 (fun e => c1 (.inr e))
    by_cases c20 : op = 20
    · rw [if_pos c20] at HNX
      rw [HNX.out]
      subst c20
      clear HNX c1
      go_enter Tryd.func65, Tryd.ntmps65
      go_wp2_with (at_builtin; refine append64 rfl _ _ rfl w.heap.size (.slice none 0 0) 0 [] rfl (World.ownsRow_nil _ _ _ _) ⟨w.heap.size + 1 + 1, 0, none⟩ 1 ((p : Int) + 1) rfl ?o1 (by omega) ?o2 ?_)
      case o1 =>
        have := lit64 ((w.alloc (.cells #[.slice (some ⟨g, o, none⟩) n co, .slice af nf cf] 67)).alloc (.cells #[.int .i64 20, .int .i64 av] 47)) (.int .i64 ((p : Int) + 1)) 2
        simpa using this
      case o2 => simp; omega
      intro v1 w1 h1 hg1
      have b1 : Below w.heap.size w w1 := (below_on (below_on (below_alloc w (.cells #[.slice (some ⟨g, o, none⟩) n co, .slice af nf cf] 67)) (below_alloc _ (.cells #[.int .i64 20, .int .i64 av] 47))) (below_alloc _ (.cells #[.int .i64 ((p : Int) + 1)] 2))).grown hg1 (by simp; omega) (fun k e => by simp [Value.ownBlock] at e)
      have H1 : Hid (w1.ownsRow w.heap.size 2 1 v1 1 (zq [(p : Int) + 1]) ∧ Below w.heap.size w w1) := ⟨by simpa [zq] using h1, b1⟩
      obtain ⟨a1, e1, hv1⟩ := own_len H1.out.1
      have d5 : w1.cell? ⟨w.heap.size + 1, 1, none⟩ = some (.int .i64 av) := by
        have hB : ((w.alloc (.cells #[.slice (some ⟨g, o, none⟩) n co, .slice af nf cf] 67)).alloc (.cells #[.int .i64 20, .int .i64 av] 47)).heap[w.heap.size + 1]? = some (.cells #[.int .i64 20, .int .i64 av] 47 (0, 0)) := by
          have := heap_alloc_new (w.alloc (.cells #[.slice (some ⟨g, o, none⟩) n co, .slice af nf cf] 67)) (.cells #[.int .i64 20, .int .i64 av] 47)
          simpa using this
        have hb := (below_alloc ((w.alloc (.cells #[.slice (some ⟨g, o, none⟩) n co, .slice af nf cf] 67)).alloc (.cells #[.int .i64 20, .int .i64 av] 47)) (.cells #[.int .i64 ((p : Int) + 1)] 2)).block (w.heap.size + 1) (by simp)
        have hc : w1.heap[w.heap.size + 1]? = some (.cells #[.int .i64 20, .int .i64 av] 47 (0, 0)) := (hg1.block (w.heap.size + 1) (by simp) (by simp [Value.ownBlock])).trans (hb.trans hB)
        rw [cell_of_row _ _ _ _ 47 (0, 0) hc]
        rfl
      clear h1 hg1 b1
      subst hv1
      have hz1 : w.heap.size ≤ w1.heap.size := H1.out.2.size
      go_wp2_with (at_builtin; refine append64 rfl _ _ rfl w.heap.size (.slice a1 1 e1) 1 (zq [(p : Int) + 1]) rfl ?p1 ⟨w1.heap.size, 0, none⟩ 1 av rfl (lit64 w1 _ 2) (by omega) ?p2 ?_)
      case p1 => exact own_later H1.out.1 (below_alloc w1 _)
      case p2 => simp; omega
      intro v2 w2 h2 hg2
      have H2 : Hid (w2.ownsRow w.heap.size 2 1 v2 2 (zq [(p : Int) + 1, av]) ∧ Below w.heap.size w w2) := by
        have hb := below_on H1.out.2 (below_alloc w1 (.cells #[.int .i64 av] 2))
        exact ⟨by simpa [zq] using h2, hb.grown hg2 hb.size (fun k e => (H1.out.1.lt k e).1)⟩
      obtain ⟨a2, e2, hv2⟩ := own_len H2.out.1
      clear h2 hg2
      subst hv2
      go_wp2_with fail
      go_ret
      exact ⟨_, rfl, H2.out⟩
    · rw [if_neg c20] at HNX
      have c20' : (op == 20) = false := beq_eq_false_iff_ne.2 c20
      by_cases c19 : op = 19
      · rw [if_pos c19] at HNX
        rw [HNX.out]
        subst c19
        clear HNX c1 c20
        go_enter Tryd.func65, Tryd.ntmps65
        go_wp2_with (at_builtin; refine append64 rfl _ _ rfl w.heap.size (.slice none 0 0) 0 [] rfl (World.ownsRow_nil _ _ _ _) ⟨w.heap.size + 1 + 1, 0, none⟩ 1 (av) rfl ?o1 (by omega) ?o2 ?_)
        case o1 =>
          have := lit64 ((w.alloc (.cells #[.slice (some ⟨g, o, none⟩) n co, .slice af nf cf] 67)).alloc (.cells #[.int .i64 19, .int .i64 av] 47)) (.int .i64 (av)) 2
          simpa using this
        case o2 => simp; omega
        intro v1 w1 h1 hg1
        have b1 : Below w.heap.size w w1 := (below_on (below_on (below_alloc w (.cells #[.slice (some ⟨g, o, none⟩) n co, .slice af nf cf] 67)) (below_alloc _ (.cells #[.int .i64 19, .int .i64 av] 47))) (below_alloc _ (.cells #[.int .i64 (av)] 2))).grown hg1 (by simp; omega) (fun k e => by simp [Value.ownBlock] at e)
        have H1 : Hid (w1.ownsRow w.heap.size 2 1 v1 1 (zq [av]) ∧ Below w.heap.size w w1) := ⟨by simpa [zq] using h1, b1⟩
        obtain ⟨a1, e1, hv1⟩ := own_len H1.out.1
        clear h1 hg1 b1
        subst hv1
        go_wp2_with fail
        go_ret
        exact ⟨_, rfl, H1.out⟩
      · rw [if_neg c19] at HNX
        have c19' : (op == 19) = false := beq_eq_false_iff_ne.2 c19
        rw [HNX.out]
        clear HNX c1
        go_enter Tryd.func65, Tryd.ntmps65
        go_wp2_with (at_builtin; refine append64 rfl _ _ rfl w.heap.size (.slice none 0 0) 0 [] rfl (World.ownsRow_nil _ _ _ _) ⟨w.heap.size + 1 + 1, 0, none⟩ 1 ((p : Int) + 1) rfl ?o1 (by omega) ?o2 ?_)
        case o1 =>
          have := lit64 ((w.alloc (.cells #[.slice (some ⟨g, o, none⟩) n co, .slice af nf cf] 67)).alloc (.cells #[.int .i64 op, .int .i64 av] 47)) (.int .i64 ((p : Int) + 1)) 2
          simpa using this
        case o2 => simp; omega
        intro v1 w1 h1 hg1
        have b1 : Below w.heap.size w w1 := (below_on (below_on (below_alloc w (.cells #[.slice (some ⟨g, o, none⟩) n co, .slice af nf cf] 67)) (below_alloc _ (.cells #[.int .i64 op, .int .i64 av] 47))) (below_alloc _ (.cells #[.int .i64 ((p : Int) + 1)] 2))).grown hg1 (by simp; omega) (fun k e => by simp [Value.ownBlock] at e)
        have H1 : Hid (w1.ownsRow w.heap.size 2 1 v1 1 (zq [(p : Int) + 1]) ∧ Below w.heap.size w w1) := ⟨by simpa [zq] using h1, b1⟩
        obtain ⟨a1, e1, hv1⟩ := own_len H1.out.1
        clear h1 hg1 b1
        subst hv1
        go_wp2_with fail
        go_ret
        exact ⟨_, rfl, H1.out⟩
end Go.Proofs.YtklamaibinjcmaaDoor

/-
  Verify: onward, behind.
-/
namespace Go.Proofs.YtklamaibinjcmaaDoor
open Go.RowKit
set_option maxRecDepth 100000
theorem infoInt : (Tryd.prog.info? 3).map (fun i => (i.zero, i.size, i.bytes)) = some (some (.int .i64 0), 1, 8) := by kernel_rfl
/-- One number is put behind numbers. -/
theorem append1 {w : World} {ops : Array Oper} {rest : List Oper} {o : Oper} {a : Act} {Q : Exit → Act → World → Prop} (hgd : o.guard = none) (s x : Operand)
    (ho : o.op = .call { callee := .builtin .append, args := #[s, x], argTypes := #[32, 32] })
    (base : Nat) (v : Value) (n : Nat) (xs : List Value) (hs : a.eval s = v) (hown : w.ownsRow base 3 1 v n xs) (ad : Addr) (c : Nat) (y : Int) (hx : a.eval x = .slice (some ad) 1 c) (hy : ∀ j u, [Value.int .i64 y][j]? = some u → w.cell? (ad.add j) = some u) (hb : n ≤ 1000000) (hbase : base ≤ w.heap.size)
    (h : ∀ v' w', w'.ownsRow base 3 1 v' (n + 1) (xs ++ [.int .i64 y]) → w.grownBy w' v.ownBlock → wpList Tryd.prog ops Q rest (a.put o.dst v') w') :
    wpList Tryd.prog ops Q (o :: rest) a w := by
  refine wpList_plain hgd fun K hK => ?_
  obtain ⟨i0, hi, hz0, hz1, hz2⟩ := info_parts infoInt
  obtain ⟨v', w', hr, h2, h3, -, -⟩ := run_append_own_at (P := Tryd.prog) w base 32 o.type 3 i0 (.int .i64 0) 1 8 Tryd.underlying32 hi hz0 hz1 hz2 rfl (by decide) v n xs hown ad 1 c [.int .i64 y] rfl hy (fun u hu => by rw [List.mem_singleton.1 hu]; rfl) (by unfold maxLen; omega) (by omega) hbase
  unfold Oper.wp execOp
  simp only [ho, resolve, invoke, builtin, Sem.run_bind, Sem.run_pure, Result.andThen_ok, List.map_toArray, List.map_cons, List.map_nil, hs, hx, hr]
  exact hK _ _ (h v' w' h2 h3)
theorem nextI_len (c : List Ins) (p : Nat) : (nextI c p).length ≤ 2 := by
  unfold nextI
  repeat' split
  all_goals simp
/-- Those of the first so many that are there. -/
def onwT (c : List Ins) (l : List Int) (i : Nat) : List Int := (l.take i).filter fun x : Int => decide (0 ≤ x ∧ x < (c.length : Int))
theorem onwT_add {c : List Ins} {l : List Int} {i : Nat} (h : i < l.length) : onwT c l (i + 1) = if thereI c l[i] then onwT c l i ++ [l[i]] else onwT c l i := by
  unfold onwT thereI
  rw [List.take_succ_eq_append_getElem h, List.filter_append]
  by_cases e : 0 ≤ l[i] ∧ l[i] < (c.length : Int)
  · simp [e]
  · simp [e]
theorem onwT_all (c : List Ins) (p : Nat) : zq (onwT c (nextI c p) (nextI c p).length) = (onwI c p).map fun y : Nat => Value.int .i64 (y : Int) := by
  unfold onwT onwI zq
  rw [List.take_length, List.map_map]
  apply List.map_congr_left
  intro x hx
  have := (List.mem_filter.1 hx).2
  rw [decide_eq_true_iff] at this
  show Value.int .i64 x = .int .i64 ((x.toNat : Nat) : Int)
  rw [Int.toNat_of_nonneg this.1]
theorem onwT_len (c : List Ins) (l : List Int) (i : Nat) : (onwT c l i).length ≤ l.length := by
  unfold onwT
  exact Nat.le_trans (List.length_filter_le _ _) (by rw [List.length_take]; omega)
set_option maxHeartbeats 4000000 in
theorem onward_any {Q : Nat → Prop} {w : World} {vc vf : Value} {c : List Ins} (h : Il Q w vc c) (hf : ∃ a n c, vf = .slice a n c) (p : Nat) (hp : p < c.length) : Calls Tryd.prog 63 #[.agg #[vc, vf], .int .i64 (p : Int)] w fun e w' => ∃ v, e = .returned v ∧ w'.ownsRow w.heap.size 3 1 v (onwI c p).length ((onwI c p).map fun y : Nat => Value.int .i64 (y : Int)) ∧ Below w.heap.size w w' := by
  have JN : Hid (∀ W, Below w.heap.size w W → Calls Tryd.prog 65 #[.agg #[vc, vf], .int .i64 (p : Int)] W fun e w' => ∃ v, e = .returned v ∧ w'.ownsRow W.heap.size 2 1 v (nextI c p).length (zq (nextI c p)) ∧ Below W.heap.size W w') := fun W hW => next_any (h.later hW) hf p hp
  have JT : Hid (∀ W a, Below w.heap.size w W → Calls Tryd.prog 64 #[.agg #[vc, vf], .int .i64 a] W fun e w' => e = .returned (.bool (thereI c a)) ∧ Below W.heap.size W w') := fun W a hW => isthere_any (h.later hW) hf a
  obtain ⟨ao, co, rfl, h1, h2⟩ := h.at
  obtain ⟨af, nf, cf, rfl⟩ := hf
  have HOA : Hid ((onwT c (nextI c p) (nextI c p).length).length = (onwI c p).length) := by
    have := congrArg List.length (onwT_all c p)
    rw [zq_len, List.length_map] at this
    exact this
  have HOE := hide (onwT_all c p)
  obtain ⟨L, hL⟩ : ∃ L, L = nextI c p := ⟨_, rfl⟩
  have hl2 : L.length ≤ 2 := by rw [hL]; exact nextI_len c p
  rw [← hL] at HOA HOE JN
  have HL2 := hide hl2
  obtain ⟨w0, hw0⟩ : ∃ X, X = w.alloc (.cells #[.slice ao c.length co, .slice af nf cf] 67) := ⟨_, rfl⟩
  have B0 : Hid (Below w.heap.size w w0) := by unfold Hid; rw [hw0]; exact below_alloc w _
  have HC : Hid (∀ W, Below w0.heap.size w0 W → W.cell? ⟨w.heap.size, 0, none⟩ = some (.slice ao c.length co) ∧ W.cell? ⟨w.heap.size, 1, none⟩ = some (.slice af nf cf)) := fun W hW => by
    have hb : w0.heap[w.heap.size]? = some (.cells #[.slice ao c.length co, .slice af nf cf] 67 (0, 0)) := by rw [hw0]; exact heap_alloc_new w _
    have hb2 := (hW.block _ (lt_of_block hb)).trans hb
    exact ⟨by rw [cell_of_row _ _ _ _ 67 (0, 0) hb2]; rfl, by rw [cell_of_row _ _ _ _ 67 (0, 0) hb2]; rfl⟩
  obtain ⟨gw, hgw⟩ : ∃ g, g = w.heap.size := ⟨_, rfl⟩
  clear h hL hl2 hp h1
  go_enter Tryd.func63, Tryd.ntmps63
  go_upto_region 2 with fail
  rw [← hw0, ← hgw]
  rw [← hgw] at HC
  obtain ⟨d0, d1⟩ := HC.out w0 (Below.refl _ _)
  clear hw0 hgw
  go_wp2_with fail
  refine (JN.out w0 B0.out).mono ?_
  rintro e w1 ⟨v1, rfl, r1, b1⟩
  obtain ⟨a1, c1, hv1⟩ := own_len r1
  obtain ⟨hc1, hc2⟩ := own_cap (hv1 ▸ r1)
  have H1 : Hid (∀ W, Below w1.heap.size w1 W → W.ownsRow w0.heap.size 2 1 (.slice a1 L.length c1) L.length (zq L)) := fun W hW => own_later (hv1 ▸ r1) hW
  have B1 := hide b1
  clear r1 b1 d0 d1
  subst hv1
  have Q0 : Hid (w1.ownsRow w1.heap.size 3 1 (.slice none 0 0) (onwT c L 0).length (zq (onwT c L 0)) ∧ Below w1.heap.size w1 w1) := ⟨by simp [onwT, zq, World.ownsRow], Below.refl _ _⟩
  obtain ⟨nl, hnl⟩ : ∃ n, n = L.length := ⟨_, rfl⟩
  have HNL := hide hnl
  rw [← hnl] at hc1 H1 ⊢
  clear hnl
  go_wp2_with fail
  go_loopw [5, 12] (fun v5 v12 W => ∃ i : Nat, i ≤ nl ∧ v12 = .int .i64 (i : Int) ∧ Hid (W.ownsRow w1.heap.size 3 1 v5 (onwT c L i).length (zq (onwT c L i)) ∧ Below w1.heap.size w1 W)) (fun _ v12 _ => nl - (intOf v12).toNat)
  case atStart => exact ⟨0, Nat.zero_le _, rfl, Q0.out⟩
  case round =>
    obtain ⟨i, hi, rfl, HI⟩ := hrel
    clear Q0
    obtain ⟨m, hm⟩ : ∃ m, m = (onwT c L i).length := ⟨_, rfl⟩
    have hm2 : m ≤ 2 := by have := onwT_len c L i; have := HL2.out; omega
    have h5 := HI.out.1
    rw [← hm] at h5
    obtain ⟨a5, c5, rfl⟩ := own_len h5
    have H5 : Hid (wr.ownsRow w1.heap.size 3 1 (.slice a5 m c5) m (zq (onwT c L i)) ∧ m = (onwT c L i).length) := ⟨h5, hm⟩
    have HM2 := hide hm2
    have BI := hide HI.out.2
    clear h5 hm hm2 HI
    by_cases hlt : i < nl
    · have t1 : (i : Int) < (nl : Int) := by omega
      have hil : i < L.length := by have := HNL.out; omega
      have r1 := H1.out wr BI.out
      obtain ⟨ga, ca, ea, -, -⟩ := own_form r1 (by omega)
      simp only [Value.slice.injEq, true_and] at ea
      obtain ⟨rfl, rfl⟩ := ea
      have d2 : wr.cell? ⟨ga, i, none⟩ = some (.int .i64 L[i]) := by
        rw [r1.cellAt i (by omega)]
        simp [zq, hil]
      have HT : Hid (onwT c L (i + 1) = if thereI c L[i] then onwT c L i ++ [L[i]] else onwT c L i) := onwT_add hil
      obtain ⟨x, hx⟩ : ∃ x, x = L[i] := ⟨_, rfl⟩
      rw [← hx] at d2 HT
      obtain ⟨d0, d1⟩ := HC.out wr (below_on B1.out BI.out)
      have J := hide (JT.out wr x (below_on B0.out (below_on B1.out BI.out)))
      clear r1 hx
      cases hb : thereI c x with
      | true =>
        rw [hb] at HT J
        go_wp2_with fail
        refine J.out.mono ?_
        rintro e w2 ⟨rfl, b2⟩
        have B2 := hide (below_on BI.out b2)
        have H2 := hide (own_later H5.out.1 b2)
        clear b2 d2 d0 d1 J
        go_wp2_with (at_builtin; refine append1 rfl _ _ rfl w1.heap.size (.slice a5 m c5) m (zq (onwT c L i)) rfl ?p1 ⟨w2.heap.size, 0, none⟩ 1 x rfl (lit64 w2 _ 3) ?p2 ?p3 ?_)
        case p1 => exact own_later H2.out (below_alloc w2 _)
        case p2 => have := HM2.out; omega
        case p3 => have := B2.out.size; simp; omega
        intro v9 w9 h9 hg9
        have HN : Hid (w9.ownsRow w1.heap.size 3 1 v9 (onwT c L (i + 1)).length (zq (onwT c L (i + 1))) ∧ Below w1.heap.size w1 w9) := by
          refine ⟨?_, ?_⟩
          · rw [HT.out, if_pos (by decide), List.length_append, ← H5.out.2]
            simpa [zq] using h9
          · have hb := below_on B2.out (below_alloc w2 (.cells #[.int .i64 x] 3))
            exact hb.grown hg9 hb.size (fun k e => (H5.out.1.lt k e).1)
        obtain ⟨a9, c9, rfl⟩ := own_len h9
        clear h9 hg9
        go_wp2_with fail
        go_roundw
        case rel => exact ⟨i + 1, by omega, rfl, HN.out⟩
        case measure => simp only [intOf]; omega
      | false =>
        rw [hb] at HT J
        go_wp2_with fail
        refine J.out.mono ?_
        rintro e w2 ⟨rfl, b2⟩
        have HN : Hid (w2.ownsRow w1.heap.size 3 1 (.slice a5 m c5) (onwT c L (i + 1)).length (zq (onwT c L (i + 1))) ∧ Below w1.heap.size w1 w2) := by
          refine ⟨?_, below_on BI.out b2⟩
          rw [HT.out, if_neg (by decide), ← H5.out.2]
          exact own_later H5.out.1 b2
        clear b2 d2 d0 d1 J
        go_wp2_with fail
        go_roundw
        case rel => exact ⟨i + 1, by omega, rfl, HN.out⟩
        case measure => simp only [intOf]; omega
    · have t1 : ¬ (i : Int) < (nl : Int) := by omega
      obtain rfl : i = nl := by omega
      have HF : Hid (wr.ownsRow w.heap.size 3 1 (.slice a5 m c5) (onwI c p).length ((onwI c p).map fun y : Nat => Value.int .i64 (y : Int)) ∧ Below w.heap.size w wr) := by
        refine ⟨?_, below_on B0.out (below_on B1.out BI.out)⟩
        have h1 := H5.out.1
        have h2 := H5.out.2
        rw [HNL.out] at h1 h2
        rw [HOE.out, h2, HOA.out] at h1
        rw [h2, HOA.out]
        exact own_lower h1 (by have := B0.out.size; have := B1.out.size; omega)
      clear H5
      go_wp2_with fail
      go_ret
      exact ⟨_, rfl, HF.out⟩
end Go.Proofs.YtklamaibinjcmaaDoor
