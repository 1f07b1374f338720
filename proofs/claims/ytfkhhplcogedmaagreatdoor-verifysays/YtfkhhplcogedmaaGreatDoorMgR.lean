import Derived.Test.YtfkhhplcogedmaaGreatDoorMgQ
import Derived.Test.YtfkhhplcogedmaaGreatDoorVfU
import Derived.Test.YtfkhhplcogedmaaGreatDoorMgN
/-
  Verify: the document's list of what is to do, and its table, in memory.
-/
namespace Go.Proofs.YtfkhhplcogedmaaGreatDoor
open Go.RowKit
set_option maxRecDepth 100000
theorem info2i : (Tryz.prog.info? 156).map (fun i => (i.zero, i.size, i.bytes)) = some (some (.agg #[.int .i64 0, .int .i64 0]), 2, 16) := by kernel_rfl
/-- A list from which the first is taken away, and behind which one is put. -/
def Qr (W : World) (B : Nat) (v : Value) (l : List (Nat × Nat)) : Prop :=
  ∃ g o c cs, v = .slice (some ⟨g, o, none⟩) l.length c ∧ B ≤ g ∧ W.heap[g]? = some (.cells cs 156 (0, 0)) ∧ l.length ≤ c ∧ c ≤ maxLen ∧ (0 < c → o + c * 2 = cs.size) ∧ ∀ j u, (mz l)[j]? = some u → cs[o + j]? = some u
theorem Qr.later {W W' : World} {B : Nat} {v : Value} {l : List (Nat × Nat)} (h : Qr W B v l) (hb : Below W.heap.size W W') : Qr W' B v l := by
  obtain ⟨g, o, c, cs, h1, h2, h3, h4⟩ := h
  exact ⟨g, o, c, cs, h1, h2, (hb.block g (lt_of_block h3)).trans h3, h4⟩
theorem Qr.pop1 {W : World} {B g o o' : Nat} {m : Nat × Nat} {l : List (Nat × Nat)} {n : Nat} (h : Qr W B (.slice (some ⟨g, o, none⟩) n 1) (m :: l)) : l = [] ∧ n = 1 ∧ Qr W B (.slice (some ⟨g, o', none⟩) 0 0) [] := by
  obtain ⟨g', o2, c, cs, h1, h2, h3, h4, h5, h6, h7⟩ := h
  injection h1 with e1 e2 e3
  injection e1 with e1
  injection e1 with e1 e4
  subst e1 e2 e3 e4
  rw [List.length_cons] at h4
  have : l = [] := List.eq_nil_of_length_eq_zero (by omega)
  subst this
  exact ⟨rfl, rfl, g, o', 0, cs, rfl, h2, h3, Nat.le_refl _, Nat.zero_le _, fun h => absurd h (by omega), fun j u h => by simp [mz] at h⟩
theorem Qr.pop {W : World} {B g o c n : Nat} {m : Nat × Nat} {l : List (Nat × Nat)} (h : Qr W B (.slice (some ⟨g, o, none⟩) (n + 1) (c + 1)) (m :: l)) : Qr W B (.slice (some ⟨g, o + 2, none⟩) n c) l := by
  obtain ⟨g', o2, c', cs, h1, h2, h3, h4, h5, h6, h7⟩ := h
  injection h1 with e1 e2 e3
  injection e1 with e1
  injection e1 with e1 e4
  subst e1 e4
  rw [List.length_cons] at e2
  obtain rfl : n = l.length := by omega
  subst e3
  rw [List.length_cons] at h4
  refine ⟨g, o + 2, c, cs, rfl, h2, h3, by omega, by omega, fun _ => by have := h6 (by omega); omega, fun j u hj => ?_⟩
  have := h7 (j + 2) u (by simpa [mz] using hj)
  rwa [show o + 2 + j = o + (j + 2) by omega]
theorem Qr.head {W : World} {B g o c n : Nat} {p d : Nat} {l : List (Nat × Nat)} (h : Qr W B (.slice (some ⟨g, o, none⟩) n c) ((p, d) :: l)) : W.cell? ⟨g, o, none⟩ = some (.int .i64 (p : Int)) ∧ W.cell? ⟨g, o + 1, none⟩ = some (.int .i64 (d : Int)) := by
  obtain ⟨g', o2, c', cs, h1, h2, h3, h4, h5, h6, h7⟩ := h
  injection h1 with e1 e2 e3
  injection e1 with e1
  injection e1 with e1 e4
  subst e1 e4
  rw [cell_of_row W _ _ _ 156 (0, 0) h3, cell_of_row W _ _ _ 156 (0, 0) h3]
  exact ⟨h7 0 _ rfl, h7 1 _ rfl⟩
theorem Qr.form {W : World} {B : Nat} {v : Value} {l : List (Nat × Nat)} (h : Qr W B v l) : ∃ g o c, v = .slice (some ⟨g, o, none⟩) l.length c ∧ l.length ≤ c ∧ c ≤ 9223372036854775807 ∧ B ≤ g ∧ ∃ cs, W.heap[g]? = some (.cells cs 156 (0, 0)) := by
  obtain ⟨g, o, c, cs, h1, h2, h3, h4, h5, -⟩ := h
  exact ⟨g, o, c, h1, h4, by unfold maxLen at h5; omega, h2, cs, h3⟩
theorem run_append_roomAt {P : Program} (w : World) (t ty e : TypeId) (i : TypeInfo) (ht : P.underlying t = some (.slice e)) (hi : P.info? e = some i)
    (g o sLen sCap : Nat) (cur : Array Value) (hg : w.heap[g]? = some (.cells cur e (0, 0)))
    (a : Addr) (m c : Nat) (news : List Value) (hl : news.length = m * i.size) (hnews : ∀ j u, news[j]? = some u → w.cell? (a.add j) = some u) (h1 : ∀ u ∈ news, u.oneCell' = true)
    (hroom : sLen + m ≤ sCap) (hfit : o + sLen * i.size + news.length ≤ cur.size) :
    (Builtin.append_ #[t, t] ty #[.slice (some ⟨g, o, none⟩) sLen sCap, .slice (some a) m c]).run P w =
      .ok (.slice (some ⟨g, o, none⟩) (sLen + m) sCap) (w.setRow g (cur.toList.take (o + sLen * i.size) ++ news ++ cur.toList.drop (o + sLen * i.size + news.length)).toArray) := by
  have hf := run_firstCells_some (P := P) w i.size m a m c news hl hnews
  have hst := run_storeCells_at P g (o + sLen * i.size) e news 0 cur w hg (by simpa using hfit) h1
  simp only [Nat.add_zero] at hst
  simp [Builtin.append_, run_underlying ht, Go.sizeOf, typeInfo, hi, Builtin.lenOf, hroom, hf, Addr.add_lit, hst]
theorem mz_one (l : List (Nat × Nat)) : ∀ u ∈ mz l, u.oneCell' = true := by
  induction l with
  | nil => intro u hu; cases hu
  | cons m t ih =>
    intro u hu
    simp only [mz, List.mem_cons] at hu
    rcases hu with rfl | rfl | hu
    · rfl
    · rfl
    · exact ih u hu
theorem run_appendQ (w : World) (ty B : Nat) (v : Value) (l : List (Nat × Nat)) (hq : Qr w B v l) (ad : Addr) (c y b : Nat) (hy : ∀ j u, (mz [(y, b)])[j]? = some u → w.cell? (ad.add j) = some u) (hb : l.length ≤ 1000000) (hB : B ≤ w.heap.size) :
    ∃ v' w', (Builtin.append_ #[157, 157] ty #[v, .slice (some ad) 1 c]).run Tryz.prog w = .ok v' w' ∧ Qr w' B v' (l ++ [(y, b)]) ∧ w.grownBy w' v.ownBlock := by
  obtain ⟨i0, hi, hz0, hz1, hz2⟩ := info_parts info2i
  obtain ⟨g, o, k, cs, rfl, h2, h3, h4, h5, h6, h7⟩ := hq
  have hml := mz_len l
  by_cases hroom : l.length + 1 ≤ k
  · have hcs := h6 (by omega)
    have hlen2 : (mz [(y, b)]).length = 2 := rfl
    have hr := run_append_roomAt (P := Tryz.prog) w 157 ty 156 i0 Tryz.underlying157 hi g o l.length k cs h3 ad 1 c (mz [(y, b)]) (by rw [hz1]; rfl) hy (mz_one _) hroom (by rw [hz1, hlen2]; omega)
    refine ⟨_, _, hr, ⟨g, o, k, _, by rw [List.length_append, List.length_singleton], h2, setRow_heap w g cs _ 156 _ h3, by rw [List.length_append, List.length_singleton]; exact hroom, h5, fun h => ?_, fun j u hj => ?_⟩, ⟨rfl, rfl, rfl, by simp, fun j _ hj => setRow_other w g j _ (fun e => hj (by simp [Value.ownBlock, e]))⟩⟩
    · rw [hcs, hz1]
      simp only [List.size_toArray, List.length_append, List.length_take, List.length_drop, Array.length_toList, hlen2]
      omega
    · rw [hz1]
      rw [mz_append] at hj
      rw [List.getElem?_toArray]
      by_cases hjl : j < l.length * 2
      · rw [List.getElem?_append_left (by omega)] at hj
        have hx := h7 j u hj
        rw [List.append_assoc, List.getElem?_append_left (by rw [List.length_take, (Array.length_toList : cs.toList.length = cs.size)]; omega), List.getElem?_take_of_lt (by omega), (Array.getElem?_toList : cs.toList[o + j]? = cs[o + j]?)]
        exact hx
      · rw [List.getElem?_append_right (by omega), hml] at hj
        have hj2 := (List.getElem?_eq_some_iff.1 hj).1
        rw [hlen2] at hj2
        have hlt : (cs.toList.take (o + l.length * 2)).length = o + l.length * 2 := by rw [List.length_take, (Array.length_toList : cs.toList.length = cs.size)]; omega
        rw [List.append_assoc, List.getElem?_append_right (by omega), hlt, List.getElem?_append_left (by rw [hlen2]; omega), show o + j - (o + l.length * 2) = j - l.length * 2 by omega]
        exact hj
  · have hh : ∀ j u, (mz l)[j]? = some u → w.cell? ((⟨g, o, none⟩ : Addr).add j) = some u := fun j u hj => by
      rw [Addr.add_lit, cell_of_row w _ _ _ 156 (0, 0) h3]
      exact h7 j u hj
    have hr := run_append_grow (P := Tryz.prog) w 157 ty 156 i0 (.agg #[.int .i64 0, .int .i64 0]) Tryz.underlying157 hi hz0 ⟨g, o, none⟩ l.length k (mz l) (by rw [hz1]; exact hml) hh ad 1 c (mz [(y, b)]) (by rw [hz1]; rfl) hy (by omega) (by omega) (growslice_fits (by omega) (by rw [hz2]; omega))
    have hge := grownCap_ge w (l.length + 1) k 156
    have hcm : grownCap w (l.length + 1) k 156 ≤ maxLen := grownCap_le_maxLen w (l.length + 1) k 156 (by unfold maxLen; omega)
    refine ⟨_, _, hr, ⟨w.heap.size, 0, _, _, by rw [List.length_append, List.length_singleton], hB, heap_alloc_new w.drew _, by rw [List.length_append, List.length_singleton]; exact hge, hcm, fun _ => ?_, fun j u hj => ?_⟩, ⟨rfl, rfl, rfl, by simp, fun k hk _ => heap_alloc_old w.drew _ hk⟩⟩
    · simp only [Array.size_append, List.size_toArray, size_zeroCells, hml]
      have : (mz [(y, b)]).length = 2 := rfl
      rw [this]
      show 0 + _ * 2 = _ + (_ - _) * 2
      omega
    · rw [mz_append] at hj
      have hlt := (List.getElem?_eq_some_iff.1 hj).1
      rw [Nat.zero_add, Array.append_assoc, Array.getElem?_append]
      simp only [List.size_toArray]
      by_cases hjl : j < (mz l).length
      · rw [if_pos hjl, List.getElem?_toArray]
        rwa [List.getElem?_append_left hjl] at hj
      · rw [if_neg hjl, Array.getElem?_append]
        rw [List.getElem?_append_right (by omega)] at hj
        simp only [List.size_toArray]
        rw [if_pos (List.getElem?_eq_some_iff.1 hj).1, List.getElem?_toArray]
        exact hj
/-- At the operation. -/
theorem appendQ {w : World} {ops : Array Oper} {rest : List Oper} {o : Oper} {a : Act} {Q : Exit → Act → World → Prop} (hgd : o.guard = none) (s x : Operand)
    (ho : o.op = .call { callee := .builtin .append, args := #[s, x], argTypes := #[157, 157] })
    (B : Nat) (v : Value) (l : List (Nat × Nat)) (hs : a.eval s = v) (hq : Qr w B v l) (ad : Addr) (c y b : Nat) (hx : a.eval x = .slice (some ad) 1 c) (hy : ∀ j u, (mz [(y, b)])[j]? = some u → w.cell? (ad.add j) = some u) (hb : l.length ≤ 1000000) (hB : B ≤ w.heap.size)
    (h : ∀ v' w', Qr w' B v' (l ++ [(y, b)]) → w.grownBy w' v.ownBlock → wpList Tryz.prog ops Q rest (a.put o.dst v') w') :
    wpList Tryz.prog ops Q (o :: rest) a w := by
  refine wpList_plain hgd fun K hK => ?_
  obtain ⟨v', w', hr, h2, h3⟩ := run_appendQ w o.type B v l hq ad c y b hy hb hB
  unfold Oper.wp execOp
  simp only [ho, resolve, invoke, builtin, Sem.run_bind, Sem.run_pure, Result.andThen_ok, List.map_toArray, List.map_cons, List.map_nil, hs, hx, hr]
  exact hK _ _ (h v' w' h2 h3)
/-- The table of places and depths. -/
def Tm (W : World) (g n : Nat) (T : Nat → Nat → Bool) : Prop := ∃ cs, W.heap[g]? = some (.cells cs 129 (0, 0)) ∧ cs.size = n * 65 ∧ ∀ p d, p < n → d < 65 → cs[p * 65 + d]? = some (.bool (T p d))
theorem Tm.later {W W' : World} {g n : Nat} {T : Nat → Nat → Bool} (h : Tm W g n T) (hb : Below W.heap.size W W') : Tm W' g n T := by
  obtain ⟨cs, h1, h2⟩ := h
  exact ⟨cs, (hb.block g (lt_of_block h1)).trans h1, h2⟩
theorem Tm.at {W : World} {g n p d : Nat} {T : Nat → Nat → Bool} (h : Tm W g n T) (hp : p < n) (hd : d < 65) : W.cell? ⟨g, p * 65 + d, none⟩ = some (.bool (T p d)) ∧ W.frozen? ⟨g, p * 65 + d, none⟩ = false := by
  obtain ⟨cs, h1, h2, h3⟩ := h
  exact ⟨by rw [cell_of_row W _ _ _ 129 (0, 0) h1]; exact h3 p d hp hd, frozen_of_row W g _ _ 129 h1⟩
theorem Tm.put {W : World} {g n p d : Nat} {T : Nat → Nat → Bool} (h : Tm W g n T) (hp : p < n) (hd : d < 65) : Tm (W.setCell ⟨g, p * 65 + d, none⟩ (.bool true)) g n (putT T p d) := by
  obtain ⟨cs, h1, h2, h3⟩ := h
  refine ⟨_, heap_setCell_same W g _ _ 129 _ h1, by simpa using h2, fun q e hq he => ?_⟩
  have hq65 : q * 65 + 65 ≤ n * 65 := by have := Nat.mul_le_mul_right 65 (show q + 1 ≤ n by omega); omega
  rw [Array.getElem?_setIfInBounds]
  by_cases c : p * 65 + d = q * 65 + e
  · obtain ⟨rfl, rfl⟩ : p = q ∧ d = e := by omega
    rw [if_pos rfl, if_pos (by omega), putT_iff.2 (.inr ⟨rfl, rfl⟩)]
  · rw [if_neg c, h3 q e hq he]
    have : ¬ (q = p ∧ e = d) := fun ⟨x, y⟩ => c (by rw [x, y])
    congr 2
    unfold putT
    by_cases hqp : q = p
    · have : ¬ e = d := fun y => this ⟨hqp, y⟩
      simp [this]
    · simp [hqp]
theorem grown_kind {W W' : World} {B g : Nat} {v : Value} {l : List (Nat × Nat)} {cs : Array Value} {t : Nat} (hq : Qr W B v l) (hg : W.grownBy W' v.ownBlock) (h : W.heap[g]? = some (.cells cs t (0, 0))) (ht : t ≠ 156) : W'.heap[g]? = some (.cells cs t (0, 0)) := by
  obtain ⟨g', o, c, cs', rfl, -, h3, -⟩ := hq
  refine (hg.block g (lt_of_block h) (fun e => ?_)).trans h
  have e' : g = g' := by simpa [Value.ownBlock] using e
  subst e'
  rw [h3] at h
  injection h with h
  injection h with h5 h6
  exact ht h6.symm
end Go.Proofs.YtfkhhplcogedmaaGreatDoor

/-
  Verify: the document's next.
-/
namespace Go.Proofs.YtfkhhplcogedmaaGreatDoor
open Go.RowKit
set_option maxRecDepth 100000
theorem il_open {Q : Nat → Prop} {w : World} {vc : Value} {c : List Ins} (h : Il Q w vc c) (p : Nat) (hp : p < c.length) : ∃ g o co, vc = .slice (some ⟨g, o, none⟩) c.length co ∧ c.length ≤ co ∧ co ≤ 9223372036854775807 ∧ w.cell? ⟨g, o + p * 2, none⟩ = some (.int .i64 (iat c p).op) ∧ w.cell? ⟨g, o + p * 2 + 1, none⟩ = some (.int .i64 (iat c p).a) ∧ I6 (iat c p).op ∧ I6 (iat c p).a := by
  obtain ⟨ao, co, rfl, h1, h2⟩ := h.at
  obtain ⟨g, o, rfl, hq, d1, d2, i1, i2⟩ := h.nth hp
  rw [← iat_eq hp] at d1 d2 i1 i2
  exact ⟨g, o, co, rfl, h1, h2, d1, d2, i1, i2⟩
/-- Numbers in a new block. -/
theorem own_one (W : World) (x : Int) : (W.alloc (.cells #[.int .i64 x] 3)).ownsRow W.heap.size 3 1 (.slice (some ⟨W.heap.size, 0, none⟩) 1 1) 1 (zq [x]) := World.ownsRow_lit (e := 3) (size := 1) (base := W.heap.size) W #[.int .i64 x] 1 (Nat.le_refl _) (by unfold maxLen; omega) rfl
theorem own_two (W : World) (x y : Int) : (W.alloc (.cells #[.int .i64 x, .int .i64 y] 3)).ownsRow W.heap.size 3 1 (.slice (some ⟨W.heap.size, 0, none⟩) 2 2) 2 (zq [x, y]) := World.ownsRow_lit (e := 3) (size := 1) (base := W.heap.size) W #[.int .i64 x, .int .i64 y] 2 (Nat.le_refl _) (by unfold maxLen; omega) rfl
set_option maxHeartbeats 4000000 in
theorem dnext_any {Q : Nat → Prop} {w : World} {vc : Value} {c : List Ins} (h : Il Q w vc c) (p : Nat) (hp : p < c.length) (hc : c.length ≤ 2000) : Calls Tryz.prog 63 #[vc, .int .i64 (p : Int)] w fun e w' => ∃ v, e = .returned v ∧ w'.ownsRow w.heap.size 3 1 v (nextD c p).length (zq (nextD c p)) ∧ Below w.heap.size w w' := by
  obtain ⟨g, o, co, rfl, h1, h2, d1, d2, i1, i2⟩ := il_open h p hp
  unfold I6 at i2
  obtain ⟨op, hop⟩ : ∃ op, op = (iat c p).op := ⟨_, rfl⟩
  obtain ⟨av, hav⟩ : ∃ av, av = (iat c p).a := ⟨_, rfl⟩
  obtain ⟨n, hn⟩ : ∃ n, n = c.length := ⟨_, rfl⟩
  have HNX : Hid (nextD c p = if op = 22 ∨ op = 23 then [] else if op = 19 then (if 0 ≤ av ∧ av < (n : Int) then [av] else []) else if op = 20 then (if 0 ≤ av ∧ av < (n : Int) then [av, (p : Int) + 1] else [(p : Int) + 1]) else [(p : Int) + 1]) := by
    rw [hop, hav, hn]
    unfold Hid nextD thereI
    simp only [decide_eq_true_eq]
  rw [← hop] at d1 i1
  rw [← hav] at d2 i2
  rw [← hn] at h1 hp hc ⊢
  have hpn : (p : Int) < (n : Int) := by omega
  obtain ⟨L, hL⟩ : ∃ L, L = nextD c p := ⟨_, rfl⟩
  rw [← hL] at HNX ⊢
  have tw : IntKind.i64.wrap ((p : Int) + 1) = (p : Int) + 1 := by rw [IntKind.wrap_i64]; omega
  have tn : IntKind.i64.wrap (n : Int) = (n : Int) := by rw [IntKind.wrap_i64]; omega
  have ta : IntKind.i64.wrap av = av := by rw [IntKind.wrap_i64]; omega
  clear h hn hop hav hL i1
  by_cases c22 : op = 22
  · subst c22
    have HL : Hid (L = []) := HNX.out.trans (by simp)
    clear HNX
    go_enter Tryz.func63, Tryz.ntmps63
    go_wp2_with fail
    all_goals (go_ret; rw [HL.out]; exact ⟨_, rfl, World.ownsRow_nil _ _ _ _, Below.refl _ _⟩)
  · have b22 : (op == 22) = false := beq_eq_false_iff_ne.2 c22
    by_cases c23 : op = 23
    · subst c23
      have HL : Hid (L = []) := HNX.out.trans (by simp)
      clear HNX
      go_enter Tryz.func63, Tryz.ntmps63
      go_wp2_with fail
      all_goals (go_ret; rw [HL.out]; exact ⟨_, rfl, World.ownsRow_nil _ _ _ _, Below.refl _ _⟩)
    · have b23 : (op == 23) = false := beq_eq_false_iff_ne.2 c23
      rw [if_neg (by omega)] at HNX
      by_cases c19 : op = 19
      · subst c19
        rw [if_pos rfl] at HNX
        by_cases th : 0 ≤ av ∧ av < (n : Int)
        · have HL : Hid (L = [av]) := HNX.out.trans (if_pos th)
          obtain ⟨th1, th2⟩ := th
          clear HNX
          go_enter Tryz.func63, Tryz.ntmps63
          go_wp2_with fail
          all_goals (go_ret; rw [HL.out]; exact ⟨_, rfl, own_one w _, below_alloc w _⟩)
        · have HL : Hid (L = []) := HNX.out.trans (if_neg th)
          clear HNX
          by_cases t1 : 0 ≤ av
          · have t2 : ¬ av < (n : Int) := fun e => th ⟨t1, e⟩
            clear th
            go_enter Tryz.func63, Tryz.ntmps63
            go_wp2_with fail
            all_goals (go_ret; rw [HL.out]; exact ⟨_, rfl, World.ownsRow_nil _ _ _ _, Below.refl _ _⟩)
          · clear th
            go_enter Tryz.func63, Tryz.ntmps63
            go_wp2_with fail
            all_goals (go_ret; rw [HL.out]; exact ⟨_, rfl, World.ownsRow_nil _ _ _ _, Below.refl _ _⟩)
      · have b19 : (op == 19) = false := beq_eq_false_iff_ne.2 c19
        rw [if_neg c19] at HNX
        by_cases c20 : op = 20
        · subst c20
          rw [if_pos rfl] at HNX
          by_cases th : 0 ≤ av ∧ av < (n : Int)
          · have HL : Hid (L = [av, (p : Int) + 1]) := HNX.out.trans (if_pos th)
            obtain ⟨th1, th2⟩ := th
            clear HNX
            go_enter Tryz.func63, Tryz.ntmps63
            go_wp2_with fail
            all_goals (go_ret; rw [HL.out]; exact ⟨_, rfl, own_two w _ _, below_alloc w _⟩)
          · have HL : Hid (L = [(p : Int) + 1]) := HNX.out.trans (if_neg th)
            clear HNX
            by_cases t1 : 0 ≤ av
            · have t2 : ¬ av < (n : Int) := fun e => th ⟨t1, e⟩
              clear th
              go_enter Tryz.func63, Tryz.ntmps63
              go_wp2_with fail
              all_goals (go_ret; rw [HL.out]; exact ⟨_, rfl, own_one w _, below_alloc w _⟩)
            · clear th
              go_enter Tryz.func63, Tryz.ntmps63
              go_wp2_with fail
              all_goals (go_ret; rw [HL.out]; exact ⟨_, rfl, own_one w _, below_alloc w _⟩)
        · have b20 : (op == 20) = false := beq_eq_false_iff_ne.2 c20
          have HL : Hid (L = [(p : Int) + 1]) := HNX.out.trans (if_neg c20)
          clear HNX
          go_enter Tryz.func63, Tryz.ntmps63
          go_wp2_with fail
          all_goals (go_ret; rw [HL.out]; exact ⟨_, rfl, own_one w _, below_alloc w _⟩)
end Go.Proofs.YtfkhhplcogedmaaGreatDoor

/-
  Verify: the document's in and fields.
-/
namespace Go.Proofs.YtfkhhplcogedmaaGreatDoor
open Go.RowKit
set_option maxRecDepth 100000
theorem din_any {Q : Nat → Prop} {W : World} {v : Value} {l : List Int} (h : Nl Q W v l) (x : Int) : Calls Tryz.prog 60 #[v, .int .i64 x] W fun e w' => e = .returned (.bool (decide (x ∈ l))) ∧ w' = W := by
  obtain ⟨te, hte⟩ : ∃ t, t = decide (x ∈ l) := ⟨_, rfl⟩
  rw [← hte]
  have TE := hide hte
  have H := hide h
  obtain ⟨ao, c, rfl, hc1, hc2⟩ := h.at
  obtain ⟨m, hm⟩ : ∃ m, m = l.length := ⟨_, rfl⟩
  have HM := hide hm
  rw [← hm] at hc1 H ⊢
  clear h hte hm
  go_enter Tryz.func60, Tryz.ntmps60
  go_wp2_with fail
  go_loop [5] (fun v => ∃ k : Nat, v = .int .i64 (k : Int) ∧ k ≤ m ∧ Hid (∀ j (hj : j < l.length), j < k → l[j] ≠ x)) (fun v => m - (intOf v).toNat)
  case atStart => exact ⟨0, rfl, by omega, fun j hj h => absurd h (by omega)⟩
  case round =>
    obtain ⟨k, rfl, hk, HN⟩ := hrel
    by_cases hlt : k < m
    · have hkl : k < l.length := by rw [← HM.out]; exact hlt
      obtain ⟨g, o, rfl, -, d0, -⟩ := H.out.nth hkl
      have i1 : (k : Int) < (m : Int) := by omega
      obtain ⟨z, hz⟩ : ∃ z, z = l[k] := ⟨_, rfl⟩
      have HZ := hide hz
      rw [← hz] at d0
      clear hz
      by_cases cz : z = x
      · obtain rfl : te = true := by rw [TE.out]; exact decide_eq_true (by rw [← cz, HZ.out]; exact List.getElem_mem hkl)
        subst cz
        clear HZ hkl HN
        go_wp2_with fail
        go_ret
        exact ⟨rfl, rfl⟩
      · have b1 : (z == x) = false := beq_eq_false_iff_ne.2 cz
        have HN2 : Hid (∀ j (hj : j < l.length), j < k + 1 → l[j] ≠ x) := fun j hj h => by
          by_cases e : j = k
          · subst e
            rw [← HZ.out]
            exact cz
          · exact HN.out j hj (by omega)
        clear HZ hkl HN cz
        go_wp2_with fail
        exact ⟨⟨k + 1, by go_num, by omega, HN2⟩, by simp [intOf]; omega⟩
    · obtain rfl : m = k := by omega
      obtain rfl : te = false := by
        rw [TE.out]
        refine decide_eq_false fun e => ?_
        obtain ⟨j, hj, e2⟩ := List.getElem_of_mem e
        exact HN.out j hj (by have := HM.out; omega) e2
      clear HN
      go_wp2_with fail
      go_ret
      exact ⟨rfl, rfl⟩
/-- How many fields a kind has; below 0: there is none. -/
def fldD (ks : List Kind) (k : Int) : Int := if isK ks k then fdI ks k else -1
theorem dfields_any {w : World} {v : Value} {ks : List Kind} (h : Kr w v ks) (k : Int) : Calls Tryz.prog 59 #[v, .int .i64 k] w fun e w' => e = .returned (.int .i64 (fldD ks k)) ∧ w' = w := by
  obtain ⟨ka, kc, rfl, k1, k2, k3⟩ := h
  have k4 : kc ≤ 9223372036854775807 := by unfold maxLen at k2; omega
  obtain ⟨te, hte⟩ : ∃ t, t = fldD ks k := ⟨_, rfl⟩
  rw [← hte]
  unfold fldD isK at hte
  obtain ⟨n, hn⟩ : ∃ n, n = ks.length := ⟨_, rfl⟩
  by_cases c1 : k < 1
  · rw [if_neg (by rw [decide_eq_true_iff]; omega)] at hte
    subst hte
    rw [← hn]
    clear k3 hn k1
    go_enter Tryz.func59, Tryz.ntmps59
    go_wp2_with fail
    go_ret
    exact ⟨rfl, rfl⟩
  · by_cases c2 : k > (n : Int)
    · rw [if_neg (by rw [decide_eq_true_iff]; omega)] at hte
      subst hte
      rw [← hn]
      clear k3 hn k1
      go_enter Tryz.func59, Tryz.ntmps59
      go_wp2_with fail
      go_ret
      exact ⟨rfl, rfl⟩
    · rw [if_pos (by rw [decide_eq_true_iff]; omega)] at hte
      obtain ⟨j, rfl⟩ : ∃ j : Nat, k = (j : Int) + 1 := ⟨(k - 1).toNat, by omega⟩
      obtain ⟨g, o, vf', rfl, y1, y2, y3⟩ := k3 j (by omega)
      obtain ⟨af, cf, rfl, f1, f2, -⟩ := y3
      have HF : te = ((ks[j]'(by omega)).2.length : Int) := by
        rw [hte]
        unfold fdI fdN
        rw [show ((j : Int) + 1).toNat - 1 = j by omega, List.getD_eq_getElem?_getD, List.getElem?_eq_getElem (by omega)]
        rfl
      generalize (ks[j]'(by omega)).2.length = nf at *
      subst HF
      rw [← hn]
      have t1 : (j : Int) < (n : Int) := by omega
      have t2 : IntKind.i64.wrap ((j : Int) + 1 - 1) = (j : Int) := by rw [IntKind.wrap_i64]; omega
      have f3 : cf ≤ 9223372036854775807 := by unfold maxLen at f2; omega
      have k5 : n ≤ kc := by omega
      clear k3 hn k1 k2 f2 y1 hte
      go_enter Tryz.func59, Tryz.ntmps59
      go_wp2_with fail
      go_ret
      exact ⟨rfl, rfl⟩
end Go.Proofs.YtfkhhplcogedmaaGreatDoor

/-
  Verify: what an instruction may touch, by the document, plain.
-/
namespace Go.Proofs.YtfkhhplcogedmaaGreatDoor
/-- May it not stand there? But for the row of parts. -/
def b1D (nf : Nat) (ks : List Kind) (lo : Int) (sy : Bool) (re wr : List Int) (op a : Int) : Bool :=
  if op = 2 ∨ op = 3 then decide (a < 0 ∨ lo ≤ a)
  else if op = 4 ∨ op = 5 then !sy || decide (a < 0) || decide (fldD ks (a.tdiv 8) ≤ a.tmod 8) || !(decide (a.tdiv 8 ∈ wr) || (decide (a.tdiv 8 ∈ re) && decide (op = 4)))
  else if op = 21 then decide (a < 0 ∨ (nf : Int) ≤ a)
  else if op = 22 then sy
  else if op = 25 ∨ op = 27 ∨ op = 30 ∨ op = 23 then !sy
  else if op = 26 ∨ op = 28 then !sy || decide (a < 0) || decide (fldD ks (a.tdiv 8) ≠ a.tmod 8)
  else if op = 29 ∨ op = 35 then !sy || decide (fldD ks a < 0)
  else false
def b2D (nf : Nat) (ks : List Kind) (r : Ro) (p : Nat) : Bool := b1D nf ks r.rt.lo r.sy r.re r.wr (iat r.rt.code p).op (iat r.rt.code p).a || (decide ((iat r.rt.code p).op = 26) && !inrI r.rt.code p)
/-- What the document answers. -/
def acN (nf : Nat) (ks : List Kind) (r : Ro) (p : Nat) : Int := if b2D nf ks r p then 152 else if isJ (iat r.rt.code p) && bhpI r.rt.code (iat r.rt.code p).a then 150 else 0
theorem dle_not (x y : Int) : decide (x ≤ y) = !decide (y < x) := by rw [← decide_not, decide_eq_decide]; omega
theorem fdI_nn (ks : List Kind) (k : Int) : 0 ≤ fdI ks k := by unfold fdI; omega
theorem b2D_mt {nf : Nat} {ks : List Kind} {r : Ro} {p : Nat} (hk : ∀ k, k ∈ r.re ∨ k ∈ r.wr → 1 ≤ k ∧ k ≤ (ks.length : Int)) : b2D nf ks r p = !mtI nf ks r p := by
  unfold b2D mtI mtE b1D ent
  generalize inrI r.rt.code p = ir
  generalize (iat r.rt.code p).op = op
  generalize (iat r.rt.code p).a = a
  have hfd := fdI_nn ks (a.tdiv 8)
  have hfa := fdI_nn ks a
  have hK1 : ∀ k, isK ks k = true → fldD ks k = fdI ks k := fun k h => by unfold fldD; rw [if_pos h]
  have hK2 : ∀ k, isK ks k = false → fldD ks k = -1 := fun k h => by unfold fldD; rw [h]; rfl
  have hA : isK ks (a.tdiv 8) = true → 0 ≤ a := fun h => by
    unfold isK at h
    rw [decide_eq_true_iff] at h
    apply Classical.byContradiction
    intro c
    have h2 : a.tdiv 8 ≤ 0 := by
      obtain ⟨b, rfl⟩ : ∃ b, a = -b := ⟨-a, by omega⟩
      rw [Int.neg_tdiv, Int.tdiv_eq_ediv_of_nonneg (by omega)]
      omega
    omega
  have hT : 0 ≤ a → 0 ≤ a.tmod 8 := fun h => Int.tmod_nonneg 8 h
  have hin : (a.tdiv 8 ∈ r.re ∨ a.tdiv 8 ∈ r.wr) → isK ks (a.tdiv 8) = true := fun h => by unfold isK; rw [decide_eq_true_iff]; exact hk _ h
  generalize a.tdiv 8 = k at *
  generalize a.tmod 8 = t at *
  by_cases c2 : op = 2 ∨ op = 3
  · rw [if_pos c2, if_pos c2, decide_eq_false (show ¬ op = 26 by omega), Bool.false_and, Bool.or_false, ← decide_not, decide_eq_decide]
    omega
  rw [if_neg c2, if_neg c2]
  by_cases c4 : op = 4 ∨ op = 5
  · rw [if_pos c4, if_neg (by omega), if_neg (by omega), decide_eq_false (show ¬ op = 26 by omega), Bool.false_and, Bool.or_false]
    rw [decide_eq_true (show op = 4 ∨ op = 5 ∨ op = 25 ∨ op = 26 ∨ op = 27 ∨ op = 28 ∨ op = 29 ∨ op = 30 ∨ op = 35 ∨ op = 23 by omega), if_pos rfl]
    rcases c4 with rfl | rfl
    · rw [if_neg (by decide), if_pos rfl]
      by_cases m : k ∈ r.re ∨ k ∈ r.wr
      · have q1 := hin m
        have q2 := hA q1
        rw [hK1 _ q1, decide_eq_false (show ¬ a < 0 by omega)]
        have m1 : (decide (k ∈ r.wr) || (decide (k ∈ r.re) && decide ((4 : Int) = 4))) = true := by simpa [or_comm] using m
        have m2 : (decide (k ∈ r.re) || decide (k ∈ r.wr)) = true := by simpa using m
        rw [m1, m2, dle_not]
        cases r.sy <;> simp
      · have m1 : (decide (k ∈ r.wr) || (decide (k ∈ r.re) && decide ((4 : Int) = 4))) = false := by simpa [and_comm] using m
        have m2 : (decide (k ∈ r.re) || decide (k ∈ r.wr)) = false := by simpa using m
        rw [m1, m2]
        simp
    · rw [if_pos rfl]
      by_cases m : k ∈ r.wr
      · have q1 := hin (.inr m)
        have q2 := hA q1
        rw [hK1 _ q1, decide_eq_false (show ¬ a < 0 by omega), decide_eq_true m, dle_not]
        cases r.sy <;> simp
      · rw [decide_eq_false m]
        simp
  rw [if_neg c4]
  by_cases c21 : op = 21
  · rw [if_pos c21, if_pos c21, decide_eq_false (show ¬ op = 26 by omega), Bool.false_and, Bool.or_false, ← decide_not, decide_eq_decide]
    omega
  rw [if_neg c21, if_neg c21]
  by_cases c22 : op = 22
  · rw [if_pos c22, if_pos c22, decide_eq_false (show ¬ op = 26 by omega)]
    simp
  rw [if_neg c22, if_neg c22]
  by_cases c25 : op = 25 ∨ op = 27 ∨ op = 30 ∨ op = 23
  · rw [if_pos c25, decide_eq_false (show ¬ op = 26 by omega), decide_eq_true (show op = 4 ∨ op = 5 ∨ op = 25 ∨ op = 26 ∨ op = 27 ∨ op = 28 ∨ op = 29 ∨ op = 30 ∨ op = 35 ∨ op = 23 by omega), if_pos rfl, if_neg (by omega), if_neg (by omega), if_neg (by omega), if_neg (by omega), if_neg (by omega)]
    simp
  rw [if_neg c25]
  by_cases c26 : op = 26 ∨ op = 28
  · rw [if_pos c26, decide_eq_true (show op = 4 ∨ op = 5 ∨ op = 25 ∨ op = 26 ∨ op = 27 ∨ op = 28 ∨ op = 29 ∨ op = 30 ∨ op = 35 ∨ op = 23 by omega), if_pos rfl, if_neg (by omega), if_neg (by omega)]
    cases q1 : isK ks k with
    | true =>
      have q2 := hA q1
      rw [hK1 _ q1, decide_eq_false (show ¬ a < 0 by omega)]
      have e1 : decide (fdI ks k ≠ t) = !decide (t = fdI ks k) := by rw [← decide_not, decide_eq_decide]; exact ⟨fun h e => h e.symm, fun h e => h e.symm⟩
      rw [e1]
      rcases c26 with rfl | rfl
      · rw [if_pos rfl]
        cases r.sy <;> cases ir <;> simp
      · rw [if_neg (by decide), if_pos rfl]
        cases r.sy <;> simp
    | false =>
      rw [hK2 _ q1]
      by_cases h : a < 0
      · rw [decide_eq_true h]
        rcases c26 with rfl | rfl
        · rw [if_pos rfl]
          simp
        · rw [if_neg (by decide), if_pos rfl]
          simp
      · have h1 := hT (by omega)
        rw [decide_eq_true (show (-1 : Int) ≠ t by omega)]
        rcases c26 with rfl | rfl
        · rw [if_pos rfl]
          simp
        · rw [if_neg (by decide), if_pos rfl]
          simp
  rw [if_neg c26]
  by_cases c29 : op = 29 ∨ op = 35
  · rw [if_pos c29, decide_eq_false (show ¬ op = 26 by omega), decide_eq_true (show op = 4 ∨ op = 5 ∨ op = 25 ∨ op = 26 ∨ op = 27 ∨ op = 28 ∨ op = 29 ∨ op = 30 ∨ op = 35 ∨ op = 23 by omega), if_pos rfl, if_neg (by omega), if_neg (by omega), if_neg (by omega), if_neg (by omega), if_pos c29]
    cases q1 : isK ks a with
    | true =>
      rw [hK1 _ q1, decide_eq_false (show ¬ fdI ks a < 0 by omega)]
      simp
    | false =>
      rw [hK2 _ q1]
      simp
  rw [if_neg c29, decide_eq_false (show ¬ op = 26 by omega), decide_eq_false (show ¬ (op = 4 ∨ op = 5 ∨ op = 25 ∨ op = 26 ∨ op = 27 ∨ op = 28 ∨ op = 29 ∨ op = 30 ∨ op = 35 ∨ op = 23) by omega)]
  simp
/-- It is wrong there just where the code says so, and as it says. -/
theorem acN_tb {nf : Nat} {ks : List Kind} {r : Ro} {p : Nat} (hk : ∀ k, k ∈ r.re ∨ k ∈ r.wr → 1 ≤ k ∧ k ≤ (ks.length : Int)) : (TB nf ks r p → acN nf ks r p = tbE nf ks r p ∧ acN nf ks r p ≠ 0) ∧ (¬ TB nf ks r p → acN nf ks r p = 0) := by
  unfold acN tbE TB
  rw [b2D_mt hk]
  cases mtI nf ks r p <;> cases (isJ (iat r.rt.code p) && bhpI r.rt.code (iat r.rt.code p).a) <;> simp
end Go.Proofs.YtfkhhplcogedmaaGreatDoor
