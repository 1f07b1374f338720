/-
  Plan's law: systems.
-/
import Derived.Test.YthgjdmomcpcolaaLi
import Derived.Test.YthgjdmomcpcolaaLa
namespace Go.Proofs.Ythgjdmomcpcolaa
open Go.RowKit
set_option maxRecDepth 100000
theorem slice_to (w : World) (ar : Option Addr) (n c k : Nat) (h : k ≤ n) (h2 : n ≤ c) : (Instr.slice 23 (.slice ar n c) none (some (.int .i64 (k : Int))) none).run Try.prog w = .ok (.slice ar k c) w := by
  have t1 : (k : Int) ≤ (c : Int) := by omega
  have e : Option.map (fun x : Addr => x.add 0) ar = ar := by
    cases ar with
    | none => rfl
    | some a => simp [Addr.add]
  simp [Instr.slice, Instr.sliceBounds, Instr.sliceBound, e, asIntOf]
  intro hh
  omega
theorem min_30 (P : Program) (w : World) (ts : Array TypeId) (t : TypeId) (x : Nat) : (Builtin.min_ ts t #[.int .i64 (x : Int), .int .i64 30]).run P w = .ok (.int .i64 ((min x 30 : Nat) : Int)) w := by
  rw [run_min_int2]
  congr 2
  split <;> omega
theorem step_append_nums (w : World) {ops : Array Oper} {o : Oper} {a : Act} {K : Act → World → Prop} {Q : Exit → Act → World → Prop} {E : Prop} (hgd : o.guard = none) (s x : Operand)
    (ho : o.op = .call { callee := .builtin .append, args := #[s, x], argTypes := #[23, 23] })
    (base : Nat) (v : Value) (n : Nat) (xs : List Value) (hs : a.eval s = v) (hown : w.ownsRow base 3 1 v n xs) (vx : Value) (l : List Int) (hx : a.eval x = vx) (hl : Rl w vx l) (hb : (n + l.length) * 8 ≤ 140737488355328) (hbase : base ≤ w.heap.size)
    (h : ∀ v' w', w'.ownsRow base 3 1 v' (n + l.length) (xs ++ zc l) → w.grownBy w' v.ownBlock → (v'.ownBlock = v.ownBlock ∨ v'.ownBlock = some w.heap.size) → K (a.put o.dst v') w') :
    if Region.wanted o (yielded ops a.tmps) = true then Oper.wp Try.prog o a w K Q else E := by
  have hw : Region.wanted o (yielded ops a.tmps) = true := by simp [Region.wanted, hgd]
  rw [if_pos hw]
  obtain ⟨v', w', hr, h2, h3, h4⟩ := run_append_nums base o.type v n xs hown vx l hl hb hbase
  unfold Oper.wp execOp
  simp only [ho, resolve, invoke, builtin, Sem.run_bind, Sem.run_pure, Result.andThen_ok, List.map_toArray, List.map_cons, List.map_nil, hs, hx, hr]
  exact h v' w' h2 h3 h4
/-- Systems that came in. -/
def Sa (w : World) (v : Value) (l : List Sy) : Prop :=
  ∃ ao c, ∃ vs : List (Value × Value), v = .slice ao l.length c ∧ l.length ≤ c ∧ c ≤ 9223372036854775807 ∧ vs.length = l.length ∧ (0 < l.length → ∃ g o, ao = some ⟨g, o, none⟩ ∧ ∀ i (h : i < vs.length), w.cell? ⟨g, o + i * 2, none⟩ = some vs[i].1 ∧ w.cell? ⟨g, o + i * 2 + 1, none⟩ = some vs[i].2) ∧ ∀ i (h1 : i < vs.length) (h2 : i < l.length), Rl w vs[i].1 l[i].1 ∧ Rl w vs[i].2 l[i].2 ∧ (∀ x ∈ l[i].1, InI x) ∧ ∀ x ∈ l[i].2, InI x
theorem Sa.later {w w' : World} {v : Value} {l : List Sy} (h : Sa w v l) (hb : Below w.heap.size w w') : Sa w' v l := by
  obtain ⟨ao, c, vs, h1, h2, h3, h4, h5, h6⟩ := h
  refine ⟨ao, c, vs, h1, h2, h3, h4, fun h0 => ?_, fun i k1 k2 => ⟨(h6 i k1 k2).1.later hb, (h6 i k1 k2).2.1.later hb, (h6 i k1 k2).2.2⟩⟩
  obtain ⟨g, o, rfl, h7⟩ := h5 h0
  exact ⟨g, o, rfl, fun i hi => ⟨(World.cell?_of_block (hb.block g (World.block_lt_of_cell? w _ (h7 i hi).1))).trans (h7 i hi).1, (World.cell?_of_block (hb.block g (World.block_lt_of_cell? w _ (h7 i hi).2))).trans (h7 i hi).2⟩⟩
def tr (s : Sy) : Sy := (s.1.take 30, s.2.take 30)
def trs (l : List Sy) : List Sy := (l.take 200).map tr
theorem Rl.take {w : World} {ar : Option Addr} {n c : Nat} {l : List Int} (h : Rl w (.slice ar n c) l) (k : Nat) : Rl w (.slice ar (min l.length k) c) (l.take k) := by
  obtain ⟨ao, c', e, h1, h2, h3⟩ := h
  simp only [Value.slice.injEq] at e
  obtain ⟨rfl, rfl, rfl⟩ := e
  have hl : (l.take k).length = min l.length k := by rw [List.length_take, Nat.min_comm]
  refine ⟨ar, c, by rw [hl], by omega, h2, fun h0 => ?_⟩
  obtain ⟨g, o, rfl, h4⟩ := h3 (by omega)
  exact ⟨g, o, rfl, fun i hi => by rw [List.getElem_take]; exact h4 i (by omega)⟩
/-- Systems that were made, by the call. -/
def Yo (w : World) (B : Nat) (v : Value) (ys : List Yc) (L : List Sy) : Prop :=
  w.ownsRow B 56 8 v ys.length (yc ys) ∧ ys.length = L.length ∧ (∀ i (h1 : i < ys.length) (h2 : i < L.length), Ac w B ys[i].2.2.1 ys[i].2.2.2 L[i]) ∧ ∀ y ∈ ys, (∃ a c, y.1 = .slice a 2 c) ∧ ∃ a c, y.2.1 = .slice a 1 c
theorem Yo.nil (w : World) (B : Nat) : Yo w B (.slice none 0 0) [] [] := ⟨World.ownsRow_nil _ _ _ _, rfl, fun i h => by simp at h, fun y h => by cases h⟩
theorem Yo.later {w w' : World} {B : Nat} {v : Value} {ys : List Yc} {L : List Sy} (h : Yo w B v ys L) (hb : Below w.heap.size w w') : Yo w' B v ys L :=
  ⟨own_later h.1 hb, h.2.1, fun i h1 h2 => (h.2.2.1 i h1 h2).later hb, h.2.2.2⟩
theorem Yo.push {W W' : World} {B : Nat} {v v' : Value} {ys : List Yc} {L : List Sy} {y : Yc} {s : Sy} (h : Yo W B v ys L) (hg : W.grownBy W' v.ownBlock) (ho : W'.ownsRow B 56 8 v' (ys.length + 1) (yc ys ++ y8 y)) (ha : Ac W B y.2.2.1 y.2.2.2 s) (hy : (∃ a c, y.1 = .slice a 2 c) ∧ ∃ a c, y.2.1 = .slice a 1 c) : Yo W' B v' (ys ++ [y]) (L ++ [s]) := by
  have ac : ∀ {va vb : Value} {t : Sy}, Ac W B va vb t → Ac W' B va vb t := fun hx => ⟨own_kept hx.1 hg (fun k hk e => own_apart h.1 hx.1 (by decide) k e hk), own_kept hx.2.1 hg (fun k hk e => own_apart h.1 hx.2.1 (by decide) k e hk), hx.2.2⟩
  refine ⟨?_, by simp [h.2.1], fun i h1 h2 => ?_, fun z hz => ?_⟩
  · have : yc (ys ++ [y]) = yc ys ++ y8 y := by rw [yc_append]; simp [yc]
    rw [this, List.length_append, List.length_singleton]
    exact ho
  · by_cases c : i < ys.length
    · rw [List.getElem_append_left c, List.getElem_append_left (by rw [← h.2.1]; exact c)]
      exact ac (h.2.2.1 i c (by rw [← h.2.1]; exact c))
    · have hi : i = ys.length := by simp at h1; omega
      subst hi
      rw [List.getElem_append_right (Nat.le_refl _), List.getElem_append_right (by rw [h.2.1]; omega)]
      simp only [h.2.1, Nat.sub_self, List.getElem_cons_zero]
      exact ac ha
  · rcases List.mem_append.1 hz with hz | hz
    · exact h.2.2.2 z hz
    · rw [List.mem_singleton.1 hz]
      exact hy
theorem info56 : (Try.prog.info? 56).map (fun i => (i.zero, i.size, i.bytes)) = some (some (.agg #[.slice none 0 0, .slice none 0 0, .slice none 0 0, .slice none 0 0, .string ByteArray.empty, .int .i64 0, .int .i64 0, .slice none 0 0]), 8, 152) := by kernel_rfl
theorem y8_one {a b c d : Value} (ha : IsSl a) (hb : IsSl b) (hc : IsSl c) (hd : IsSl d) : ∀ u ∈ y8 (a, b, c, d), u.oneCell' = true := fun u hu => by
  obtain ⟨_, _, _, rfl⟩ := ha
  obtain ⟨_, _, _, rfl⟩ := hb
  obtain ⟨_, _, _, rfl⟩ := hc
  obtain ⟨_, _, _, rfl⟩ := hd
  simp only [y8, List.mem_cons, List.not_mem_nil, or_false] at hu
  rcases hu with rfl | rfl | rfl | rfl | rfl | rfl | rfl | rfl <;> rfl
set_option maxHeartbeats 8000000 in
theorem systems_any {w : World} {v : Value} {l : List Sy} (h : Sa w v l) : Calls Try.prog 9 #[v] w fun e w' => ∃ v' ys, e = .returned v' ∧ Yo w' w.heap.size v' ys (trs l) ∧ Below w.heap.size w w' := by
  have H := hide h
  obtain ⟨ao, c, vs, rfl, hc1, hc2, hvl, -⟩ := h
  have HVL := hide hvl
  have hmin := @min_30 Try.prog
  clear hvl
  obtain ⟨i0, hi0, hz0, hz1, hz2⟩ := info_parts info56
  go_enter Try.func9, Try.ntmps9
  go_wp2_with fail
  go_loopw [3, 4] (fun v3 v4 W => ∃ (i : Nat) (ys : List Yc), i ≤ l.length ∧ i ≤ 200 ∧ v4 = .int .i64 (i : Int) ∧ Hid (Yo W w.heap.size v3 ys ((l.take i).map tr) ∧ Below w.heap.size w W)) (fun _ v4 _ => 200 - (intOf v4).toNat)
  case atStart => exact ⟨0, [], Nat.zero_le _, Nat.zero_le _, rfl, Yo.nil _ _, Below.refl _ _⟩
  case round =>
    obtain ⟨i, ys, hi1, hi2, rfl, HY⟩ := hrel
    by_cases hlt : i < l.length
    · have t1 : (i : Int) < (l.length : Int) := by omega
      by_cases hl2 : i < 200
      · have t2 : (i : Int) < 200 := by omega
        obtain ⟨a3, c3, rfl⟩ := own_len HY.out.1.1
        obtain ⟨ao', c', vs', ea, -, -, hvl, hgo, hrows⟩ := H.out.later HY.out.2
        simp only [Value.slice.injEq, true_and] at ea
        obtain ⟨rfl, rfl⟩ := ea
        obtain ⟨ga, oa, rfl, hcell⟩ := hgo (by omega)
        have hiv : i < vs'.length := by omega
        obtain ⟨e1, e2⟩ := hcell i hiv
        obtain ⟨r1, r2, r3, r4⟩ := hrows i hiv hlt
        generalize vs'[i] = vi at *
        obtain ⟨vi1, vi2⟩ := vi
        dsimp only at e1 e2 r1 r2
        have R1 := hide r1
        have R2 := hide r2
        obtain ⟨x1, y1, rfl, hx1, hx2, -⟩ := r1
        obtain ⟨x2, y2, rfl, hx3, hx4, -⟩ := r2
        have hsl1 : ∀ W : World, (Instr.slice 23 (.slice x1 l[i].1.length y1) none (some (.int .i64 ((min l[i].1.length 30 : Nat) : Int))) none).run Try.prog W = .ok (.slice x1 (min l[i].1.length 30) y1) W := fun W => slice_to W x1 _ y1 _ (by omega) hx1
        have hsl2 : ∀ W : World, (Instr.slice 23 (.slice x2 l[i].2.length y2) none (some (.int .i64 ((min l[i].2.length 30 : Nat) : Int))) none).run Try.prog W = .ok (.slice x2 (min l[i].2.length 30) y2) W := fun W => slice_to W x2 _ y2 _ (by omega) hx3
        clear hcell hgo hrows hvl hiv
        go_wp2_with fail
        obtain ⟨w4, hw4⟩ : ∃ X, X = (((wr.alloc (Obj.cells #[Value.int IntKind.i64 1, Value.int IntKind.i64 2] 3)).alloc (Obj.cells #[Value.int IntKind.i64 (i : Int)] 3)).alloc (Obj.cells #[Value.slice (some ⟨wr.heap.size, 0, none⟩) 2 2, Value.slice (some ⟨wr.heap.size + 1, 0, none⟩) 1 1, Value.slice none 0 0, Value.slice none 0 0, Value.string ⟨#[]⟩, Value.int IntKind.i64 0, Value.int IntKind.i64 0, Value.slice none 0 0] 56)) := ⟨_, rfl⟩
        rw [← hw4]
        have b4 : Below wr.heap.size wr w4 := by
          rw [hw4]
          exact below_on (below_on (below_alloc wr _) (below_alloc _ _)) (below_alloc _ _)
        have c4 : w4.heap[wr.heap.size + 1 + 1]? = some (Obj.cells #[Value.slice (some ⟨wr.heap.size, 0, none⟩) 2 2, Value.slice (some ⟨wr.heap.size + 1, 0, none⟩) 1 1, Value.slice none 0 0, Value.slice none 0 0, Value.string ⟨#[]⟩, Value.int IntKind.i64 0, Value.int IntKind.i64 0, Value.slice none 0 0] 56 (0, 0)) := by
          have := heap_alloc_new ((wr.alloc (Obj.cells #[Value.int IntKind.i64 1, Value.int IntKind.i64 2] 3)).alloc (Obj.cells #[Value.int IntKind.i64 (i : Int)] 3)) (Obj.cells #[Value.slice (some ⟨wr.heap.size, 0, none⟩) 2 2, Value.slice (some ⟨wr.heap.size + 1, 0, none⟩) 1 1, Value.slice none 0 0, Value.slice none 0 0, Value.string ⟨#[]⟩, Value.int IntKind.i64 0, Value.int IntKind.i64 0, Value.slice none 0 0] 56)
          rw [hw4]
          simpa using this
        have hgaw : ga < wr.heap.size := World.block_lt_of_cell? wr _ e1
        obtain ⟨q, hq⟩ : ∃ X, X = wr.heap.size + 1 + 1 := ⟨_, rfl⟩
        rw [← hq] at c4 ⊢
        have hgq : ga ≠ q := by omega
        have hgq' : ¬ ga = q := hgq
        have HQ : Hid (wr.heap.size ≤ q) := by unfold Hid; omega
        have B4 := hide b4
        have C4 := hide c4
        obtain ⟨q1, hq1⟩ : ∃ X, X = wr.heap.size := ⟨_, rfl⟩
        have z0A : w4.cell? ⟨q, 2, none⟩ = some (.slice none 0 0) := by rw [cell_of_row _ _ _ _ 56 (0, 0) c4]; rfl
        have f1A : w4.cell? ⟨ga, oa + i * 2, none⟩ = some (.slice x1 l[i].1.length y1) := (World.cell?_of_block (b4.block ga hgaw)).trans e1
        obtain ⟨T1, hT1⟩ : ∃ X, X = l[i].1.take 30 := ⟨_, rfl⟩
        obtain ⟨T2, hT2⟩ : ∃ X, X = l[i].2.take 30 := ⟨_, rfl⟩
        have HRD1 : Hid (∀ V, Below w4.heap.size w4 V → Rl V (.slice x1 (min l[i].1.length 30) y1) T1) := fun V hV => by rw [hT1]; exact (R1.out.later (below_on b4 hV)).take 30
        have HRD2 : Hid (∀ V, Below wr.heap.size wr V → Rl V (.slice x2 (min l[i].2.length 30) y2) T2) := fun V hV => by rw [hT2]; exact (R2.out.later hV).take 30
        have E2 : Hid (∀ V, Below wr.heap.size wr V → V.cell? ⟨ga, oa + i * 2 + 1, none⟩ = some (.slice x2 l[i].2.length y2)) := fun V hV => (World.cell?_of_block (hV.block ga hgaw)).trans e2
        have HSZ : Hid (w.heap.size ≤ wr.heap.size) := HY.out.2.size
        have HTL : Hid (T1.length ≤ 30 ∧ T2.length ≤ 30) := by
          rw [hT1, hT2]
          constructor <;> rw [List.length_take] <;> omega
        have HTA : Hid (tr l[i] = (T1, T2) ∧ (∀ x ∈ T1, InI x) ∧ ∀ x ∈ T2, InI x) := by
          refine ⟨by rw [hT1, hT2]; rfl, fun x hx => ?_, fun x hx => ?_⟩
          · rw [hT1] at hx
            exact r3 x (List.mem_of_mem_take hx)
          · rw [hT2] at hx
            exact r4 x (List.mem_of_mem_take hx)
        -- behind the first append
        have LW1 : Hid (∀ v5 w5, w5.ownsRow w.heap.size 3 1 v5 (0 + T1.length) ([] ++ zc T1) → w4.drew.grownBy w5 none → (w5.cell? ⟨q, 2, none⟩ = some (.slice none 0 0) ∧ w5.frozen? ⟨q, 2, none⟩ = false ∧ w5.cell? ⟨ga, oa + i * 2, none⟩ = some (.slice x1 l[i].1.length y1)) ∧ Hid (Rw (w5.setCell ⟨q, 2, none⟩ v5) w.heap.size v5 T1 ∧ Below wr.heap.size wr (w5.setCell ⟨q, 2, none⟩ v5) ∧ (w5.setCell ⟨q, 2, none⟩ v5).heap[q]? = some (Obj.cells #[Value.slice (some ⟨wr.heap.size, 0, none⟩) 2 2, Value.slice (some ⟨wr.heap.size + 1, 0, none⟩) 1 1, v5, Value.slice none 0 0, Value.string ⟨#[]⟩, Value.int IntKind.i64 0, Value.int IntKind.i64 0, Value.slice none 0 0] 56 (0, 0)))) := fun v5 w5 h5 hg5 => by
          have b5 : Below w4.heap.size w4 w5 := (below_drew w4).grown hg5 (Nat.le_refl _) (fun k e => by cases e)
          have b45 := below_on b4 b5
          have c5 := (b5.block q (lt_of_block c4)).trans c4
          rw [Nat.zero_add, List.nil_append] at h5
          have hne : v5.ownBlock ≠ some q := fun e => by
            obtain ⟨cur, hc⟩ := own_block h5 e
            rw [c5] at hc
            simp at hc
          refine ⟨⟨by rw [cell_of_row _ _ _ _ 56 (0, 0) c5]; rfl, frozen_of_row w5 q _ _ 56 c5, (World.cell?_of_block (b45.block ga hgaw)).trans e1⟩, own_set h5 hne, ?_, ?_⟩
          · exact b45.trans (Mv.below (Mv.set (S := fun k => k = q) (Mv.refl _ _) rfl _ _) b45.size (fun k e => by rw [e]; exact HQ.out))
          · exact heap_setCell_same w5 q 2 _ 56 v5 c5
        have HN0A : Hid (w.heap.size ≤ w4.heap.size) := Nat.le_trans HSZ.out b4.size
        clear hw4 b4 c4 hq hq1 hgaw e1 e2 R1 R2 hT1 hT2 r3 r4
        refine wp_region_noPanic ?_
        refine wp_region_late (J := fun i => i != 17) (S := fun V => V.cell? ⟨q, 2, none⟩ = some (.slice none 0 0) ∧ V.cell? ⟨ga, oa + i * 2, none⟩ = some (.slice x1 l[i].1.length y1)) (by kernel_rfl) ⟨z0A, f1A⟩ (fun hHeld => ?_)
        refine' wpAnyJ_takeW (i := 0) (oi := { dst := some 20, op := Op.fieldAddr 56 (Operand.tmp 5) 2, type := 0, pos := "plan.go:20", after := #[], guard := none }) (v := _) rfl (by kernel_rfl) (by kernel_rfl) (by kernel_rfl) (fun _ _ _ h => h) (Or.inl ⟨by rfl, ?hyA1⟩) ?reA1
        case hyA1 => (intro W hSw; (try dsimp only at hSw); go_simp; try with_reducible rfl)
        try simp only [Act.put, List.setIfInBounds_toArray, List.set_cons_zero, List.set_cons_succ]
        refine' wpAnyJ_take (i := 1) (oi := { dst := some 21, op := Op.load 23 (Operand.tmp 20), type := 23, pos := "plan.go:20", after := #[{ on := 0, ground := Ground.data }], guard := none }) (v := _) rfl (by kernel_rfl) (by kernel_rfl) (by kernel_rfl) (by kernel_rfl) (fun _ _ _ h => h) (Or.inl ⟨by rfl, ?hyA2⟩) (by assumption) ?reA2
        case hyA2 => (intro W hSw; (try dsimp only at hSw); go_simp; try with_reducible rfl)
        try simp only [Act.put, List.setIfInBounds_toArray, List.set_cons_zero, List.set_cons_succ]
        refine' wpAnyJ_takeW (i := 2) (oi := { dst := some 22, op := Op.move (Operand.tmp 0), type := 22, pos := "plan.go:20", after := #[], guard := none }) (v := _) rfl (by kernel_rfl) (by kernel_rfl) (by kernel_rfl) (fun _ _ _ h => h) (Or.inl ⟨by rfl, ?hyA3⟩) ?reA3
        case hyA3 => (intro W hSw; (try dsimp only at hSw); go_simp; try with_reducible rfl)
        try simp only [Act.put, List.setIfInBounds_toArray, List.set_cons_zero, List.set_cons_succ]
        refine' wpAnyJ_takeW (i := 3) (oi := { dst := some 23, op := Op.move (Operand.tmp 4), type := 3, pos := "plan.go:20", after := #[], guard := none }) (v := _) rfl (by kernel_rfl) (by kernel_rfl) (by kernel_rfl) (fun _ _ _ h => h) (Or.inl ⟨by rfl, ?hyA4⟩) ?reA4
        case hyA4 => (intro W hSw; (try dsimp only at hSw); go_simp; try with_reducible rfl)
        try simp only [Act.put, List.setIfInBounds_toArray, List.set_cons_zero, List.set_cons_succ]
        refine' wpAnyJ_takeW (i := 4) (oi := { dst := some 24, op := Op.indexAddr 22 (Operand.tmp 22) (Operand.tmp 23), type := 0, pos := "plan.go:20", after := #[{ on := 2, ground := Ground.data }, { on := 3, ground := Ground.data }], guard := none }) (v := _) rfl (by kernel_rfl) (by kernel_rfl) (by kernel_rfl) (fun _ _ _ h => h) (Or.inl ⟨by rfl, ?hyA5⟩) ?reA5
        case hyA5 => (intro W hSw; (try dsimp only at hSw); go_simp; try with_reducible rfl)
        try simp only [Act.put, List.setIfInBounds_toArray, List.set_cons_zero, List.set_cons_succ]
        refine' wpAnyJ_takeW (i := 5) (oi := { dst := some 25, op := Op.fieldAddr 60 (Operand.tmp 24) 0, type := 0, pos := "plan.go:20", after := #[{ on := 4, ground := Ground.data }], guard := none }) (v := _) rfl (by kernel_rfl) (by kernel_rfl) (by kernel_rfl) (fun _ _ _ h => h) (Or.inl ⟨by rfl, ?hyA6⟩) ?reA6
        case hyA6 => (intro W hSw; (try dsimp only at hSw); go_simp; try with_reducible rfl)
        try simp only [Act.put, List.setIfInBounds_toArray, List.set_cons_zero, List.set_cons_succ]
        refine' wpAnyJ_take (i := 6) (oi := { dst := some 26, op := Op.load 23 (Operand.tmp 25), type := 23, pos := "plan.go:20", after := #[{ on := 5, ground := Ground.data }], guard := none }) (v := _) rfl (by kernel_rfl) (by kernel_rfl) (by kernel_rfl) (by kernel_rfl) (fun _ _ _ h => h) (Or.inl ⟨by rfl, ?hyA7⟩) (by assumption) ?reA7
        case hyA7 => (intro W hSw; (try dsimp only at hSw); go_simp; try with_reducible rfl)
        try simp only [Act.put, List.setIfInBounds_toArray, List.set_cons_zero, List.set_cons_succ]
        refine' wpAnyJ_takeW (i := 7) (oi := { dst := some 27, op := Op.move (Operand.tmp 0), type := 22, pos := "plan.go:20", after := #[], guard := none }) (v := _) rfl (by kernel_rfl) (by kernel_rfl) (by kernel_rfl) (fun _ _ _ h => h) (Or.inl ⟨by rfl, ?hyA8⟩) ?reA8
        case hyA8 => (intro W hSw; (try dsimp only at hSw); go_simp; try with_reducible rfl)
        try simp only [Act.put, List.setIfInBounds_toArray, List.set_cons_zero, List.set_cons_succ]
        refine' wpAnyJ_takeW (i := 8) (oi := { dst := some 28, op := Op.move (Operand.tmp 4), type := 3, pos := "plan.go:20", after := #[], guard := none }) (v := _) rfl (by kernel_rfl) (by kernel_rfl) (by kernel_rfl) (fun _ _ _ h => h) (Or.inl ⟨by rfl, ?hyA9⟩) ?reA9
        case hyA9 => (intro W hSw; (try dsimp only at hSw); go_simp; try with_reducible rfl)
        try simp only [Act.put, List.setIfInBounds_toArray, List.set_cons_zero, List.set_cons_succ]
        refine' wpAnyJ_takeW (i := 9) (oi := { dst := some 29, op := Op.indexAddr 22 (Operand.tmp 27) (Operand.tmp 28), type := 0, pos := "plan.go:20", after := #[{ on := 7, ground := Ground.data }, { on := 8, ground := Ground.data }], guard := none }) (v := _) rfl (by kernel_rfl) (by kernel_rfl) (by kernel_rfl) (fun _ _ _ h => h) (Or.inl ⟨by rfl, ?hyA10⟩) ?reA10
        case hyA10 => (intro W hSw; (try dsimp only at hSw); go_simp; try with_reducible rfl)
        try simp only [Act.put, List.setIfInBounds_toArray, List.set_cons_zero, List.set_cons_succ]
        refine' wpAnyJ_takeW (i := 10) (oi := { dst := some 30, op := Op.fieldAddr 60 (Operand.tmp 29) 0, type := 0, pos := "plan.go:20", after := #[{ on := 9, ground := Ground.data }], guard := none }) (v := _) rfl (by kernel_rfl) (by kernel_rfl) (by kernel_rfl) (fun _ _ _ h => h) (Or.inl ⟨by rfl, ?hyA11⟩) ?reA11
        case hyA11 => (intro W hSw; (try dsimp only at hSw); go_simp; try with_reducible rfl)
        try simp only [Act.put, List.setIfInBounds_toArray, List.set_cons_zero, List.set_cons_succ]
        refine' wpAnyJ_take (i := 11) (oi := { dst := some 31, op := Op.load 23 (Operand.tmp 30), type := 23, pos := "plan.go:20", after := #[{ on := 10, ground := Ground.data }], guard := none }) (v := _) rfl (by kernel_rfl) (by kernel_rfl) (by kernel_rfl) (by kernel_rfl) (fun _ _ _ h => h) (Or.inl ⟨by rfl, ?hyA12⟩) (by assumption) ?reA12
        case hyA12 => (intro W hSw; (try dsimp only at hSw); go_simp; try with_reducible rfl)
        try simp only [Act.put, List.setIfInBounds_toArray, List.set_cons_zero, List.set_cons_succ]
        refine' wpAnyJ_takeW (i := 12) (oi := { dst := some 32, op := Op.call { callee := Callee.builtin Builtin.len, args := #[Operand.tmp 31], argTypes := #[23] }, type := 3, pos := "plan.go:20", after := #[{ on := 11, ground := Ground.data }], guard := none }) (v := _) rfl (by kernel_rfl) (by kernel_rfl) (by kernel_rfl) (fun _ _ _ h => h) (Or.inl ⟨by rfl, ?hyA13⟩) ?reA13
        case hyA13 => (intro W hSw; (try dsimp only at hSw); go_simp; try with_reducible rfl)
        try simp only [Act.put, List.setIfInBounds_toArray, List.set_cons_zero, List.set_cons_succ]
        refine' wpAnyJ_takeW (i := 13) (oi := { dst := some 33, op := Op.call { callee := Callee.builtin Builtin.min, args := #[Operand.tmp 32, Operand.const (Value.int IntKind.i64 30)], argTypes := #[3, 3] }, type := 3, pos := "plan.go:20", after := #[{ on := 12, ground := Ground.data }], guard := none }) (v := _) rfl (by kernel_rfl) (by kernel_rfl) (by kernel_rfl) (fun _ _ _ h => h) (Or.inl ⟨by rfl, ?hyA14⟩) ?reA14
        case hyA14 => (intro W hSw; (try dsimp only at hSw); go_simp; try with_reducible rfl)
        try simp only [Act.put, List.setIfInBounds_toArray, List.set_cons_zero, List.set_cons_succ]
        refine' wpAnyJ_takeW (i := 14) (oi := { dst := some 34, op := Op.slice 23 (Operand.tmp 26) none (some (Operand.tmp 33)) none, type := 23, pos := "plan.go:20", after := #[{ on := 6, ground := Ground.data }, { on := 13, ground := Ground.data }], guard := none }) (v := _) rfl (by kernel_rfl) (by kernel_rfl) (by kernel_rfl) (fun _ _ _ h => h) (Or.inl ⟨by rfl, ?hyA15⟩) ?reA15
        case hyA15 => (intro W hSw; (try dsimp only at hSw); go_simp; try with_reducible rfl)
        try simp only [Act.put, List.setIfInBounds_toArray, List.set_cons_zero, List.set_cons_succ]
        refine wpAnyJ_ready (rs := [15]) (by kernel_rfl) (by simp) ?_
        refine AllReadyJ.cons (o := { dst := some 35, op := Op.call { callee := Callee.builtin Builtin.append, args := #[Operand.tmp 21, Operand.tmp 34], argTypes := #[23, 23] }, type := 23, pos := "plan.go:20", after := #[{ on := 1, ground := Ground.data }, { on := 14, ground := Ground.data }], guard := none }) rfl (fun K hK => ?_) AllReadyJ.nil
        refine step_append_nums _ rfl (.tmp 21) (.tmp 34) rfl w.heap.size (.slice none 0 0) 0 [] (by simp [Act.eval]) (World.ownsRow_nil _ _ _ _) (.slice x1 (min l[i].1.length 30) y1) (T1) (by simp [Act.eval]) (HRD1.out _ (below_drew w4)) (by have := HTL.out; omega) (by exact HN0A.out) ?_
        intro v5 w5 h5 hg5 _
        obtain ⟨⟨z5, fz5, f5⟩, HF5A⟩ := LW1.out v5 w5 h5 hg5
        rw [Nat.zero_add] at h5
        obtain ⟨a5A, c5A, rfl⟩ := own_len h5
        clear h5 hg5
        refine hK.out _ _ (fun _ _ => ⟨z5, f5⟩) ?_
        clear hK K
        try simp only [Act.put, List.setIfInBounds_toArray, List.set_cons_zero, List.set_cons_succ]
        refine' wpAnyJ_takeW (i := 16) (oi := { dst := some 36, op := Op.fieldAddr 56 (Operand.tmp 5) 2, type := 0, pos := "plan.go:20", after := #[{ on := 0, ground := Ground.phase }, { on := 1, ground := Ground.phase }, { on := 2, ground := Ground.phase }, { on := 3, ground := Ground.phase }, { on := 4, ground := Ground.phase }, { on := 5, ground := Ground.phase }, { on := 6, ground := Ground.phase }, { on := 7, ground := Ground.phase }, { on := 8, ground := Ground.phase }, { on := 9, ground := Ground.phase }, { on := 10, ground := Ground.phase }, { on := 11, ground := Ground.phase }, { on := 12, ground := Ground.phase }, { on := 13, ground := Ground.phase }, { on := 14, ground := Ground.phase }, { on := 15, ground := Ground.phase }], guard := none }) (v := _) rfl (by kernel_rfl) (by kernel_rfl) (by kernel_rfl) (fun _ _ _ h => h) (Or.inl ⟨by rfl, ?hyA16⟩) ?reA16
        case hyA16 => (intro W hSw; (try dsimp only at hSw); go_simp; try with_reducible rfl)
        try simp only [Act.put, List.setIfInBounds_toArray, List.set_cons_zero, List.set_cons_succ]
        refine wpAnyJ_ready (rs := [17]) (by kernel_rfl) (by simp) ?_
        refine AllReadyJ.cons (o := { dst := none, op := Op.store 23 (Operand.tmp 36) (Operand.tmp 35), type := 0, pos := "plan.go:20", after := #[{ on := 16, ground := Ground.data }, { on := 15, ground := Ground.data }, { on := 15, ground := Ground.chain }, { on := 0, ground := Ground.phase }, { on := 1, ground := Ground.phase }, { on := 2, ground := Ground.phase }, { on := 3, ground := Ground.phase }, { on := 4, ground := Ground.phase }, { on := 5, ground := Ground.phase }, { on := 6, ground := Ground.phase }, { on := 7, ground := Ground.phase }, { on := 8, ground := Ground.phase }, { on := 9, ground := Ground.phase }, { on := 10, ground := Ground.phase }, { on := 11, ground := Ground.phase }, { on := 12, ground := Ground.phase }, { on := 13, ground := Ground.phase }, { on := 14, ground := Ground.phase }, { on := 15, ground := Ground.phase }], guard := none }) rfl (fun K hK => ?_) AllReadyJ.nil
        go_simp
        refine hK.out _ _ (fun h => absurd h (by decide)) ?_
        clear hK K
        try simp only [Act.put, List.setIfInBounds_toArray, List.set_cons_zero, List.set_cons_succ]
        refine wpAnyJ_done (by kernel_rfl) ?_ _
        refine NoPanic.normal ?_
        obtain ⟨w6, hw6⟩ : ∃ X, X = w5.setCell ⟨q, 2, none⟩ (.slice a5A T1.length c5A) := ⟨_, rfl⟩
        rw [← hw6] at HF5A ⊢
        clear hw6 z5 fz5 f5 z0A f1A LW1 HRD1 HN0A
        obtain ⟨k1, k2, k3⟩ := HF5A.out
        have HB6 := hide k2
        have z0B : w6.cell? ⟨q, 3, none⟩ = some (.slice none 0 0) := by rw [cell_of_row _ _ _ _ 56 (0, 0) k3]; rfl
        have f1B : w6.cell? ⟨ga, oa + i * 2 + 1, none⟩ = some (.slice x2 l[i].2.length y2) := E2.out w6 k2
        have HN0B : Hid (w.heap.size ≤ w6.heap.size) := Nat.le_trans HSZ.out k2.size
        have K1 := hide k1
        have K3 := hide k3
        have LW2 : Hid (∀ v7 w7, w7.ownsRow w.heap.size 3 1 v7 (0 + T2.length) ([] ++ zc T2) → w6.drew.grownBy w7 none → (w7.cell? ⟨q, 3, none⟩ = some (.slice none 0 0) ∧ w7.frozen? ⟨q, 3, none⟩ = false ∧ w7.cell? ⟨ga, oa + i * 2 + 1, none⟩ = some (.slice x2 l[i].2.length y2)) ∧ Hid (Rw (w7.setCell ⟨q, 3, none⟩ v7) w.heap.size (.slice a5A T1.length c5A) T1 ∧ Rw (w7.setCell ⟨q, 3, none⟩ v7) w.heap.size v7 T2 ∧ Below wr.heap.size wr (w7.setCell ⟨q, 3, none⟩ v7) ∧ (w7.setCell ⟨q, 3, none⟩ v7).heap[q]? = some (Obj.cells #[Value.slice (some ⟨wr.heap.size, 0, none⟩) 2 2, Value.slice (some ⟨wr.heap.size + 1, 0, none⟩) 1 1, .slice a5A T1.length c5A, v7, Value.string ⟨#[]⟩, Value.int IntKind.i64 0, Value.int IntKind.i64 0, Value.slice none 0 0] 56 (0, 0)))) := fun v7 w7 h7 hg7 => by
          have b7 : Below w6.heap.size w6 w7 := (below_drew w6).grown hg7 (Nat.le_refl _) (fun k e => by cases e)
          have b67 := below_on k2 b7
          have c7 := (b7.block q (lt_of_block k3)).trans k3
          rw [Nat.zero_add, List.nil_append] at h7
          have hne : ∀ {x : Value} {n : Nat} {xs : List Value}, w7.ownsRow w.heap.size 3 1 x n xs → x.ownBlock ≠ some q := fun hx e => by
            obtain ⟨cur, hc⟩ := own_block hx e
            rw [c7] at hc
            simp at hc
          have h5' := own_later k1 b7
          refine ⟨⟨by rw [cell_of_row _ _ _ _ 56 (0, 0) c7]; rfl, frozen_of_row w7 q _ _ 56 c7, E2.out w7 b67⟩, own_set h5' (hne h5'), own_set h7 (hne h7), ?_, ?_⟩
          · exact b67.trans (Mv.below (Mv.set (S := fun k => k = q) (Mv.refl _ _) rfl _ _) b67.size (fun k e => by rw [e]; exact HQ.out))
          · exact heap_setCell_same w7 q 3 _ 56 v7 c7
        clear k1 k2 k3
        go_wp2_with fail
        refine wp_region_noPanic ?_
        refine wp_region_late (J := fun i => i != 17) (S := fun V => V.cell? ⟨q, 3, none⟩ = some (.slice none 0 0) ∧ V.cell? ⟨ga, oa + i * 2 + 1, none⟩ = some (.slice x2 l[i].2.length y2)) (by kernel_rfl) ⟨z0B, f1B⟩ (fun hHeld => ?_)
        refine' wpAnyJ_takeW (i := 0) (oi := { dst := some 37, op := Op.fieldAddr 56 (Operand.tmp 5) 3, type := 0, pos := "plan.go:21", after := #[], guard := none }) (v := _) rfl (by kernel_rfl) (by kernel_rfl) (by kernel_rfl) (fun _ _ _ h => h) (Or.inl ⟨by rfl, ?hyB1⟩) ?reB1
        case hyB1 => (intro W hSw; (try dsimp only at hSw); go_simp; try with_reducible rfl)
        try simp only [Act.put, List.setIfInBounds_toArray, List.set_cons_zero, List.set_cons_succ]
        refine' wpAnyJ_take (i := 1) (oi := { dst := some 38, op := Op.load 23 (Operand.tmp 37), type := 23, pos := "plan.go:21", after := #[{ on := 0, ground := Ground.data }], guard := none }) (v := _) rfl (by kernel_rfl) (by kernel_rfl) (by kernel_rfl) (by kernel_rfl) (fun _ _ _ h => h) (Or.inl ⟨by rfl, ?hyB2⟩) (by assumption) ?reB2
        case hyB2 => (intro W hSw; (try dsimp only at hSw); go_simp; try with_reducible rfl)
        try simp only [Act.put, List.setIfInBounds_toArray, List.set_cons_zero, List.set_cons_succ]
        refine' wpAnyJ_takeW (i := 2) (oi := { dst := some 39, op := Op.move (Operand.tmp 0), type := 22, pos := "plan.go:21", after := #[], guard := none }) (v := _) rfl (by kernel_rfl) (by kernel_rfl) (by kernel_rfl) (fun _ _ _ h => h) (Or.inl ⟨by rfl, ?hyB3⟩) ?reB3
        case hyB3 => (intro W hSw; (try dsimp only at hSw); go_simp; try with_reducible rfl)
        try simp only [Act.put, List.setIfInBounds_toArray, List.set_cons_zero, List.set_cons_succ]
        refine' wpAnyJ_takeW (i := 3) (oi := { dst := some 40, op := Op.move (Operand.tmp 4), type := 3, pos := "plan.go:21", after := #[], guard := none }) (v := _) rfl (by kernel_rfl) (by kernel_rfl) (by kernel_rfl) (fun _ _ _ h => h) (Or.inl ⟨by rfl, ?hyB4⟩) ?reB4
        case hyB4 => (intro W hSw; (try dsimp only at hSw); go_simp; try with_reducible rfl)
        try simp only [Act.put, List.setIfInBounds_toArray, List.set_cons_zero, List.set_cons_succ]
        refine' wpAnyJ_takeW (i := 4) (oi := { dst := some 41, op := Op.indexAddr 22 (Operand.tmp 39) (Operand.tmp 40), type := 0, pos := "plan.go:21", after := #[{ on := 2, ground := Ground.data }, { on := 3, ground := Ground.data }], guard := none }) (v := _) rfl (by kernel_rfl) (by kernel_rfl) (by kernel_rfl) (fun _ _ _ h => h) (Or.inl ⟨by rfl, ?hyB5⟩) ?reB5
        case hyB5 => (intro W hSw; (try dsimp only at hSw); go_simp; try with_reducible rfl)
        try simp only [Act.put, List.setIfInBounds_toArray, List.set_cons_zero, List.set_cons_succ]
        refine' wpAnyJ_takeW (i := 5) (oi := { dst := some 42, op := Op.fieldAddr 60 (Operand.tmp 41) 1, type := 0, pos := "plan.go:21", after := #[{ on := 4, ground := Ground.data }], guard := none }) (v := _) rfl (by kernel_rfl) (by kernel_rfl) (by kernel_rfl) (fun _ _ _ h => h) (Or.inl ⟨by rfl, ?hyB6⟩) ?reB6
        case hyB6 => (intro W hSw; (try dsimp only at hSw); go_simp; try with_reducible rfl)
        try simp only [Act.put, List.setIfInBounds_toArray, List.set_cons_zero, List.set_cons_succ]
        refine' wpAnyJ_take (i := 6) (oi := { dst := some 43, op := Op.load 23 (Operand.tmp 42), type := 23, pos := "plan.go:21", after := #[{ on := 5, ground := Ground.data }], guard := none }) (v := _) rfl (by kernel_rfl) (by kernel_rfl) (by kernel_rfl) (by kernel_rfl) (fun _ _ _ h => h) (Or.inl ⟨by rfl, ?hyB7⟩) (by assumption) ?reB7
        case hyB7 => (intro W hSw; (try dsimp only at hSw); go_simp; try with_reducible rfl)
        try simp only [Act.put, List.setIfInBounds_toArray, List.set_cons_zero, List.set_cons_succ]
        refine' wpAnyJ_takeW (i := 7) (oi := { dst := some 44, op := Op.move (Operand.tmp 0), type := 22, pos := "plan.go:21", after := #[], guard := none }) (v := _) rfl (by kernel_rfl) (by kernel_rfl) (by kernel_rfl) (fun _ _ _ h => h) (Or.inl ⟨by rfl, ?hyB8⟩) ?reB8
        case hyB8 => (intro W hSw; (try dsimp only at hSw); go_simp; try with_reducible rfl)
        try simp only [Act.put, List.setIfInBounds_toArray, List.set_cons_zero, List.set_cons_succ]
        refine' wpAnyJ_takeW (i := 8) (oi := { dst := some 45, op := Op.move (Operand.tmp 4), type := 3, pos := "plan.go:21", after := #[], guard := none }) (v := _) rfl (by kernel_rfl) (by kernel_rfl) (by kernel_rfl) (fun _ _ _ h => h) (Or.inl ⟨by rfl, ?hyB9⟩) ?reB9
        case hyB9 => (intro W hSw; (try dsimp only at hSw); go_simp; try with_reducible rfl)
        try simp only [Act.put, List.setIfInBounds_toArray, List.set_cons_zero, List.set_cons_succ]
        refine' wpAnyJ_takeW (i := 9) (oi := { dst := some 46, op := Op.indexAddr 22 (Operand.tmp 44) (Operand.tmp 45), type := 0, pos := "plan.go:21", after := #[{ on := 7, ground := Ground.data }, { on := 8, ground := Ground.data }], guard := none }) (v := _) rfl (by kernel_rfl) (by kernel_rfl) (by kernel_rfl) (fun _ _ _ h => h) (Or.inl ⟨by rfl, ?hyB10⟩) ?reB10
        case hyB10 => (intro W hSw; (try dsimp only at hSw); go_simp; try with_reducible rfl)
        try simp only [Act.put, List.setIfInBounds_toArray, List.set_cons_zero, List.set_cons_succ]
        refine' wpAnyJ_takeW (i := 10) (oi := { dst := some 47, op := Op.fieldAddr 60 (Operand.tmp 46) 1, type := 0, pos := "plan.go:21", after := #[{ on := 9, ground := Ground.data }], guard := none }) (v := _) rfl (by kernel_rfl) (by kernel_rfl) (by kernel_rfl) (fun _ _ _ h => h) (Or.inl ⟨by rfl, ?hyB11⟩) ?reB11
        case hyB11 => (intro W hSw; (try dsimp only at hSw); go_simp; try with_reducible rfl)
        try simp only [Act.put, List.setIfInBounds_toArray, List.set_cons_zero, List.set_cons_succ]
        refine' wpAnyJ_take (i := 11) (oi := { dst := some 48, op := Op.load 23 (Operand.tmp 47), type := 23, pos := "plan.go:21", after := #[{ on := 10, ground := Ground.data }], guard := none }) (v := _) rfl (by kernel_rfl) (by kernel_rfl) (by kernel_rfl) (by kernel_rfl) (fun _ _ _ h => h) (Or.inl ⟨by rfl, ?hyB12⟩) (by assumption) ?reB12
        case hyB12 => (intro W hSw; (try dsimp only at hSw); go_simp; try with_reducible rfl)
        try simp only [Act.put, List.setIfInBounds_toArray, List.set_cons_zero, List.set_cons_succ]
        refine' wpAnyJ_takeW (i := 12) (oi := { dst := some 49, op := Op.call { callee := Callee.builtin Builtin.len, args := #[Operand.tmp 48], argTypes := #[23] }, type := 3, pos := "plan.go:21", after := #[{ on := 11, ground := Ground.data }], guard := none }) (v := _) rfl (by kernel_rfl) (by kernel_rfl) (by kernel_rfl) (fun _ _ _ h => h) (Or.inl ⟨by rfl, ?hyB13⟩) ?reB13
        case hyB13 => (intro W hSw; (try dsimp only at hSw); go_simp; try with_reducible rfl)
        try simp only [Act.put, List.setIfInBounds_toArray, List.set_cons_zero, List.set_cons_succ]
        refine' wpAnyJ_takeW (i := 13) (oi := { dst := some 50, op := Op.call { callee := Callee.builtin Builtin.min, args := #[Operand.tmp 49, Operand.const (Value.int IntKind.i64 30)], argTypes := #[3, 3] }, type := 3, pos := "plan.go:21", after := #[{ on := 12, ground := Ground.data }], guard := none }) (v := _) rfl (by kernel_rfl) (by kernel_rfl) (by kernel_rfl) (fun _ _ _ h => h) (Or.inl ⟨by rfl, ?hyB14⟩) ?reB14
        case hyB14 => (intro W hSw; (try dsimp only at hSw); go_simp; try with_reducible rfl)
        try simp only [Act.put, List.setIfInBounds_toArray, List.set_cons_zero, List.set_cons_succ]
        refine' wpAnyJ_takeW (i := 14) (oi := { dst := some 51, op := Op.slice 23 (Operand.tmp 43) none (some (Operand.tmp 50)) none, type := 23, pos := "plan.go:21", after := #[{ on := 6, ground := Ground.data }, { on := 13, ground := Ground.data }], guard := none }) (v := _) rfl (by kernel_rfl) (by kernel_rfl) (by kernel_rfl) (fun _ _ _ h => h) (Or.inl ⟨by rfl, ?hyB15⟩) ?reB15
        case hyB15 => (intro W hSw; (try dsimp only at hSw); go_simp; try with_reducible rfl)
        try simp only [Act.put, List.setIfInBounds_toArray, List.set_cons_zero, List.set_cons_succ]
        refine wpAnyJ_ready (rs := [15]) (by kernel_rfl) (by simp) ?_
        refine AllReadyJ.cons (o := { dst := some 52, op := Op.call { callee := Callee.builtin Builtin.append, args := #[Operand.tmp 38, Operand.tmp 51], argTypes := #[23, 23] }, type := 23, pos := "plan.go:21", after := #[{ on := 1, ground := Ground.data }, { on := 14, ground := Ground.data }], guard := none }) rfl (fun K hK => ?_) AllReadyJ.nil
        refine step_append_nums _ rfl (.tmp 38) (.tmp 51) rfl w.heap.size (.slice none 0 0) 0 [] (by simp [Act.eval]) (World.ownsRow_nil _ _ _ _) (.slice x2 (min l[i].2.length 30) y2) (T2) (by simp [Act.eval]) (HRD2.out _ (below_on HB6.out (below_drew w6))) (by have := HTL.out; omega) (by exact HN0B.out) ?_
        intro v7 w7 h5 hg5 _
        obtain ⟨⟨z5, fz5, f5⟩, HF5B⟩ := LW2.out v7 w7 h5 hg5
        rw [Nat.zero_add] at h5
        obtain ⟨a5B, c5B, rfl⟩ := own_len h5
        clear h5 hg5
        refine hK.out _ _ (fun _ _ => ⟨z5, f5⟩) ?_
        clear hK K
        try simp only [Act.put, List.setIfInBounds_toArray, List.set_cons_zero, List.set_cons_succ]
        refine' wpAnyJ_takeW (i := 16) (oi := { dst := some 53, op := Op.fieldAddr 56 (Operand.tmp 5) 3, type := 0, pos := "plan.go:21", after := #[{ on := 0, ground := Ground.phase }, { on := 1, ground := Ground.phase }, { on := 2, ground := Ground.phase }, { on := 3, ground := Ground.phase }, { on := 4, ground := Ground.phase }, { on := 5, ground := Ground.phase }, { on := 6, ground := Ground.phase }, { on := 7, ground := Ground.phase }, { on := 8, ground := Ground.phase }, { on := 9, ground := Ground.phase }, { on := 10, ground := Ground.phase }, { on := 11, ground := Ground.phase }, { on := 12, ground := Ground.phase }, { on := 13, ground := Ground.phase }, { on := 14, ground := Ground.phase }, { on := 15, ground := Ground.phase }], guard := none }) (v := _) rfl (by kernel_rfl) (by kernel_rfl) (by kernel_rfl) (fun _ _ _ h => h) (Or.inl ⟨by rfl, ?hyB16⟩) ?reB16
        case hyB16 => (intro W hSw; (try dsimp only at hSw); go_simp; try with_reducible rfl)
        try simp only [Act.put, List.setIfInBounds_toArray, List.set_cons_zero, List.set_cons_succ]
        refine wpAnyJ_ready (rs := [17]) (by kernel_rfl) (by simp) ?_
        refine AllReadyJ.cons (o := { dst := none, op := Op.store 23 (Operand.tmp 53) (Operand.tmp 52), type := 0, pos := "plan.go:21", after := #[{ on := 16, ground := Ground.data }, { on := 15, ground := Ground.data }, { on := 15, ground := Ground.chain }, { on := 0, ground := Ground.phase }, { on := 1, ground := Ground.phase }, { on := 2, ground := Ground.phase }, { on := 3, ground := Ground.phase }, { on := 4, ground := Ground.phase }, { on := 5, ground := Ground.phase }, { on := 6, ground := Ground.phase }, { on := 7, ground := Ground.phase }, { on := 8, ground := Ground.phase }, { on := 9, ground := Ground.phase }, { on := 10, ground := Ground.phase }, { on := 11, ground := Ground.phase }, { on := 12, ground := Ground.phase }, { on := 13, ground := Ground.phase }, { on := 14, ground := Ground.phase }, { on := 15, ground := Ground.phase }], guard := none }) rfl (fun K hK => ?_) AllReadyJ.nil
        go_simp
        refine hK.out _ _ (fun h => absurd h (by decide)) ?_
        clear hK K
        try simp only [Act.put, List.setIfInBounds_toArray, List.set_cons_zero, List.set_cons_succ]
        refine wpAnyJ_done (by kernel_rfl) ?_ _
        refine NoPanic.normal ?_
        obtain ⟨w8, hw8⟩ : ∃ X, X = w7.setCell ⟨q, 3, none⟩ (.slice a5B T2.length c5B) := ⟨_, rfl⟩
        rw [← hw8] at HF5B ⊢
        clear hw8 z5 fz5 f5 z0B f1B LW2 HRD2 HN0B E2 HB6 K1 K3 HF5A
        obtain ⟨k1, k2, k3, k4⟩ := HF5B.out
        have HY8 := hide (HY.out.1.later k3)
        have HB8 := hide (below_on HY.out.2 k3)
        have hc : ∀ k, w8.cell? ⟨q, k, none⟩ = (#[Value.slice (some ⟨wr.heap.size, 0, none⟩) 2 2, Value.slice (some ⟨wr.heap.size + 1, 0, none⟩) 1 1, .slice a5A T1.length c5A, .slice a5B T2.length c5B, Value.string ⟨#[]⟩, Value.int IntKind.i64 0, Value.int IntKind.i64 0, Value.slice none 0 0] : Array Value)[k]? := fun k => cell_of_row w8 q k _ 56 (0, 0) k4
        have p0 := hc 0
        have p1 := hc 1
        have p2 := hc 2
        have p3 := hc 3
        have p4 := hc 4
        have p5 := hc 5
        have p6 := hc 6
        have p7 := hc 7
        simp only [List.getElem?_toArray, List.getElem?_cons_zero, List.getElem?_cons_succ] at p0 p1 p2 p3 p4 p5 p6 p7
        have HAC : Hid (Ac w8 w.heap.size (.slice a5A T1.length c5A) (.slice a5B T2.length c5B) (T1, T2)) := ⟨k1, k2, HTA.out.2.1, HTA.out.2.2, by have := HTL.out; dsimp only; omega, by have := HTL.out; dsimp only; omega⟩
        obtain ⟨q1, hq1⟩ : ∃ X, X = wr.heap.size := ⟨_, rfl⟩
        rw [← hq1] at p0 p1 ⊢
        have HYL : Hid (ys.length ≤ 200) := by
          have := HY.out.1.2.1
          rw [List.length_map, List.length_take] at this
          unfold Hid
          omega
        clear k1 k2 k3 k4 hc hq1 HF5B hgq hgq' hsl1 hsl2
        go_wp2_with (at_builtin; refine wpList_append_own_at _ rfl _ _ 29 rfl w.heap.size 56 i0 (.agg #[.slice none 0 0, .slice none 0 0, .slice none 0 0, .slice none 0 0, .string ByteArray.empty, .int .i64 0, .int .i64 0, .slice none 0 0]) 8 152 Try.underlying29 hi0 hz0 hz1 hz2 rfl (by decide) (.slice a3 ys.length c3) ys.length (yc ys) rfl ?p1 ⟨w8.heap.size, 0, none⟩ 1 1 (y8 (.slice (some ⟨q1, 0, none⟩) 2 2, .slice (some ⟨q1 + 1, 0, none⟩) 1 1, .slice a5A T1.length c5A, .slice a5B T2.length c5B)) rfl rfl ?p2 ?p3 ?p4 ?p5 ?p6 ?_)
        case p1 => exact own_later HY8.out.1 (below_alloc w8 _)
        case p2 =>
          intro j u hj
          have hj8 : j < 8 := (List.getElem?_eq_some_iff.1 hj).1
          rw [WideShapes.add_plain, cell_of_row _ _ _ _ 56 (0, 0) (heap_alloc_new w8 _), Nat.zero_add, ← hj]
          simp [y8]
          rfl
        case p3 => exact y8_one ⟨_, _, _, rfl⟩ ⟨_, _, _, rfl⟩ ⟨_, _, _, rfl⟩ ⟨_, _, _, rfl⟩
        case p4 => have := HYL.out; unfold maxLen; omega
        case p5 => have := HYL.out; omega
        case p6 => have := HB8.out.size; simp; omega
        intro v9 w9 ho9 hg9 _ _
        have HN : Hid (Yo w9 w.heap.size v9 (ys ++ [(.slice (some ⟨q1, 0, none⟩) 2 2, .slice (some ⟨q1 + 1, 0, none⟩) 1 1, .slice a5A T1.length c5A, .slice a5B T2.length c5B)]) ((l.take (i + 1)).map tr) ∧ Below w.heap.size w w9) := by
          refine ⟨?_, ?_⟩
          · rw [List.take_succ_eq_append_getElem hlt, List.map_append, List.map_cons, List.map_nil, HTA.out.1]
            exact (HY8.out.later (below_alloc w8 _)).push hg9 ho9 (HAC.out.later (below_alloc w8 _)) ⟨⟨_, _, rfl⟩, ⟨_, _, rfl⟩⟩
          · have hb := below_on HB8.out (below_alloc w8 (.cells #[.slice (some ⟨q1, 0, none⟩) 2 2, .slice (some ⟨q1 + 1, 0, none⟩) 1 1, .slice a5A T1.length c5A, .slice a5B T2.length c5B, .string ⟨#[]⟩, .int .i64 0, .int .i64 0, .slice none 0 0] 56))
            exact hb.grown hg9 hb.size (fun k e => (HY8.out.1.lt k e).1)
        obtain ⟨a9, c9, rfl⟩ := own_len ho9
        clear ho9 hg9 p0 p1 p2 p3 p4 p5 p6 p7
        go_wp2_with fail
        go_roundw
        case rel => exact ⟨i + 1, _, by omega, by omega, rfl, HN.out⟩
        case measure => simp only [intOf]; omega
      · have t2 : ¬ (i : Int) < 200 := by omega
        obtain ⟨a3, c3, rfl⟩ := own_len HY.out.1.1
        have HYF : Hid (Yo wr w.heap.size (.slice a3 ys.length c3) ys (trs l)) := by
          have e : i = 200 := by omega
          have := HY.out.1
          rw [e] at this
          exact this
        go_wp2_with fail
        go_ret
        exact ⟨_, rfl, ⟨ys, HYF.out⟩, HY.out.2⟩
    · have t1 : ¬ (i : Int) < (l.length : Int) := by omega
      obtain ⟨a3, c3, rfl⟩ := own_len HY.out.1.1
      have HYF : Hid (Yo wr w.heap.size (.slice a3 ys.length c3) ys (trs l)) := by
        have e : i = l.length := by omega
        have := HY.out.1
        unfold Hid trs
        rw [List.take_of_length_le (by omega)]
        rw [e, List.take_length] at this
        exact this
      go_wp2_with fail
      go_ret
      exact ⟨_, rfl, ⟨ys, HYF.out⟩, HY.out.2⟩
end Go.Proofs.Ythgjdmomcpcolaa
