import Derived.Test.YtafmiolehlagkaaGreatGm3
/-
  World: a part of the usual kinds, made of a number.
-/
namespace Go.Proofs.YtafmiolehlagkaaGreat
open Go.RowKit
set_option maxRecDepth 100000
theorem results_cell_one {fn : Func} {p : Tmp} {ty : TypeId} (h : fn.results = #[.cell p ty]) (tmps : Array Value) (P : Program) (w : World) :
    (results fn tmps).run P w = ((asAddr (tmps.getD p undef)).run P w).andThen fun a w₁ => (loadVar ty a).run P w₁ := by
  simp only [results, h]
  simp [Sem.run_bind, Result.andThen]
def c4 (k : Nat) : Nat := [2, 1, 0, 4].getD k 0
def valsN (y : Int) (n : Nat) : List Int := (List.range n).map fun j : Nat => wrap64 (y + (j : Int))
theorem valsN_len (y : Int) (n : Nat) : (valsN y n).length = n := by simp [valsN]
theorem valsN_push (y : Int) (n : Nat) : valsN y (n + 1) = valsN y n ++ [wrap64 (y + (n : Int))] := by simp [valsN, List.range_succ]
theorem valsN_fit (y : Int) (n : Nat) : Pak.Rw.AllFit (valsN y n) := fun z hz => by
  simp only [valsN, List.mem_map] at hz
  obtain ⟨j, -, rfl⟩ := hz
  exact Pak.Rw.wrap64_fits _
theorem c4_le {k : Nat} (h : k < 4) : c4 k ≤ 4 := by
  match k, h with
  | 0, _ => decide
  | 1, _ => decide
  | 2, _ => decide
  | 3, _ => decide
theorem c4_cell (W : World) {k : Nat} (h : k < 4) : (W.alloc (.cells #[.int .i64 2, .int .i64 1, .int .i64 0, .int .i64 4] 3)).cell? ⟨W.heap.size, k, none⟩ = some (.int .i64 (c4 k : Int)) := by
  rw [cell_of_row _ _ _ _ 3 (0, 0) (heap_alloc_new W _)]
  match k, h with
  | 0, _ => rfl
  | 1, _ => rfl
  | 2, _ => rfl
  | 3, _ => rfl
theorem block_kind {w : World} {B e s n g : Nat} {e' : TypeId} {v : Value} {xs : List Value} {o : Array Value} (h : w.ownsRow B e s v n xs) (hg : w.heap[g]? = some (.cells o e' (0, 0))) (hne : e ≠ e') : v.ownBlock ≠ some g := fun hk => by
  rcases h.2 with ⟨rfl, -⟩ | ⟨g', c, cur, rfl, -, hg', -⟩
  · simp [Value.ownBlock] at hk
  · simp only [Value.ownBlock, Option.some.injEq] at hk
    subst hk
    rw [hg] at hg'
    simp only [Option.some.injEq, Obj.cells.injEq] at hg'
    exact hne hg'.2.1.symm
/-- The part under way. -/
def Pw (w W : World) (kp kr : Nat) (k : Nat) (y : Int) (v : Value) (i : Nat) : Prop :=
  W.heap[kp]? = some (.cells #[.int .i64 ((k : Int) + 1), v] 32 (0, 0)) ∧ W.ownsRow w.heap.size 2 1 v i (zc (valsN y i)) ∧ W.heap[kr]? = some (.cells #[.int .i64 0, .slice none 0 0] 32 (0, 0)) ∧ Below w.heap.size w W ∧ w.heap.size ≤ kp ∧ w.heap.size ≤ kr ∧ kp ≠ kr
theorem Pw.turn {w W W' : World} {kp kr k i : Nat} {y : Int} {v v' : Value} (h : Pw w W kp kr k y v i) {W1 : World} (hb : Below W.heap.size W W1) (ho : W'.ownsRow w.heap.size 2 1 v' (i + 1) (zc (valsN y i) ++ [.int .i64 (wrap64 (y + (i : Int)))])) (hg : W1.grownBy W' v.ownBlock) :
    (W'.cell? ⟨kp, 1, none⟩ = some v ∧ W'.frozen? ⟨kp, 1, none⟩ = false) ∧ Pw w (W'.setCell ⟨kp, 1, none⟩ v') kp kr k y v' (i + 1) := by
  obtain ⟨h1, h2, h3, h4, h5, h6, h7⟩ := h
  have b1 := (hb.block kp (lt_of_block h1)).trans h1
  have b3 := (hb.block kr (lt_of_block h3)).trans h3
  have o1 := own_later h2 hb
  have p1 : W'.heap[kp]? = some (.cells #[.int .i64 ((k : Int) + 1), v] 32 (0, 0)) := (hg.block kp (lt_of_block b1) (fun e => block_kind o1 b1 (by decide) e.symm)).trans b1
  have p3 : W'.heap[kr]? = some (.cells #[.int .i64 0, .slice none 0 0] 32 (0, 0)) := (hg.block kr (lt_of_block b3) (fun e => block_kind o1 b3 (by decide) e.symm)).trans b3
  refine ⟨⟨by rw [cell_of_row W' kp _ _ 32 (0, 0) p1]; rfl, frozen_of_row W' kp 1 _ 32 p1⟩, heap_setCell_same W' kp 1 _ 32 v' p1, ?_, (heap_setCell_other W' ⟨kp, 1, none⟩ kr _ (fun e => h7 e.symm)).trans p3, ?_, h5, h6, h7⟩
  · rw [valsN_push, zc_append]
    exact own_set ho (block_kind ho p1 (by decide))
  · refine below_set ((below_on h4 hb).grown hg (below_on h4 hb).size (fun k e => (h2.lt k e).1)) h5
set_option maxHeartbeats 8000000 in
theorem part_any (x y : Int) (w : World) (h0 : -9223372036854775808 ≤ x) (h1 : x ≤ 9223372036854775807) :
    Calls Tryz.prog 23 #[.int .i64 x, .int .i64 y] w fun e w' => ∃ v, e = .returned (.agg #[.int .i64 ((pk x 4 : Nat) + 1 : Int), v]) ∧ w'.ownsRow w.heap.size 2 1 v (c4 (pk x 4)) (zc (valsN y (c4 (pk x 4)))) ∧ Below w.heap.size w w' := by
  obtain ⟨i0, hi0, hz0, hz1, hz2⟩ := info_parts info2
  have hk4 : pk x 4 < 4 := pk_lt x (by omega)
  have J1 := hide (pick_any x 4 (w.alloc (.cells #[.int .i64 0, .slice none 0 0] 32)) h0 h1 (by omega) (by omega))
  generalize pk x 4 = k at *
  have hcn := c4_le hk4
  have HC : Hid (∀ W : World, (W.alloc (.cells #[.int .i64 2, .int .i64 1, .int .i64 0, .int .i64 4] 3)).cell? ⟨W.heap.size, k, none⟩ = some (.int .i64 (c4 k : Int))) := fun W => c4_cell W hk4
  generalize c4 k = cn at *
  have tk : (k : Int) < 4 := by omega
  have tk1 : IntKind.i64.wrap ((k : Int) + 1) = ((k : Int) + 1) := by rw [IntKind.wrap_i64]; omega
  go_enter Tryz.func23, Tryz.ntmps23
  go_wp2_with fail
  refine J1.out.mono ?_
  rintro e w1 ⟨rfl, rfl⟩
  clear J1
  have H0 : Hid (Pw w ((w.alloc (.cells #[.int .i64 0, .slice none 0 0] 32)).alloc (.cells #[.int .i64 ((k : Int) + 1), .slice none 0 0] 32)) (w.heap.size + 1) w.heap.size k y (.slice none 0 0) 0) := by
    refine ⟨?_, by simpa [valsN, zc] using World.ownsRow_nil _ _ _ _, ?_, below_on (below_alloc w _) (below_alloc _ _), by omega, Nat.le_refl _, by omega⟩
    · have := heap_alloc_new (w.alloc (.cells #[.int .i64 0, .slice none 0 0] 32)) (.cells #[.int .i64 ((k : Int) + 1), .slice none 0 0] 32)
      simpa using this
    · exact ((below_alloc _ _).block _ (by simp)).trans (heap_alloc_new w _)
  go_wp2_with fail
  obtain ⟨kp, hkp⟩ : ∃ q, q = w.heap.size + 1 := ⟨_, rfl⟩
  rw [← hkp] at H0 ⊢
  clear hkp tk1
  go_loopw [7] (fun v7 W => ∃ (i : Nat) (v : Value), i ≤ cn ∧ v7 = .int .i64 (i : Int) ∧ Hid (Pw w W kp w.heap.size k y v i)) (fun v7 _ => cn - (intOf v7).toNat)
  case atStart => exact ⟨0, _, Nat.zero_le _, rfl, H0⟩
  case round =>
    obtain ⟨i, v, hil, rfl, HP⟩ := hrel
    have hcell := HC.out wr
    have hb1 := below_alloc wr (.cells #[.int .i64 2, .int .i64 1, .int .i64 0, .int .i64 4] 3)
    have hkq := (hb1.block kp (lt_of_block HP.out.1)).trans HP.out.1
    have p0 : (wr.alloc (.cells #[.int .i64 2, .int .i64 1, .int .i64 0, .int .i64 4] 3)).cell? ⟨kp, 0, none⟩ = some (.int .i64 ((k : Int) + 1)) := by rw [cell_of_row _ kp _ _ 32 (0, 0) hkq]; rfl
    have p1 : (wr.alloc (.cells #[.int .i64 2, .int .i64 1, .int .i64 0, .int .i64 4] 3)).cell? ⟨kp, 1, none⟩ = some v := by rw [cell_of_row _ kp _ _ 32 (0, 0) hkq]; rfl
    have tk0 : (0 : Int) ≤ (k : Int) := by omega
    by_cases hlt : i < cn
    · have t1 : (i : Int) < (cn : Int) := by omega
      obtain ⟨av, nv, cv, rfl⟩ := own_slice HP.out.2.1
      have HO : Hid (((wr.alloc (.cells #[.int .i64 2, .int .i64 1, .int .i64 0, .int .i64 4] 3)).alloc (.cells #[.int .i64 (wrap64 (y + (i : Int)))] 2)).ownsRow w.heap.size 2 1 (.slice av nv cv) i (zc (valsN y i))) := (own_later (own_later HP.out.2.1 hb1) (below_alloc _ _))
      have HT : Hid (∀ (W' : World) (v' : Value), W'.ownsRow w.heap.size 2 1 v' (i + 1) (zc (valsN y i) ++ [.int .i64 (wrap64 (y + (i : Int)))]) → ((wr.alloc (.cells #[.int .i64 2, .int .i64 1, .int .i64 0, .int .i64 4] 3)).alloc (.cells #[.int .i64 (wrap64 (y + (i : Int)))] 2)).grownBy W' (Value.slice av nv cv).ownBlock → (W'.cell? ⟨kp, 1, none⟩ = some (.slice av nv cv) ∧ W'.frozen? ⟨kp, 1, none⟩ = false) ∧ Pw w (W'.setCell ⟨kp, 1, none⟩ v') kp w.heap.size k y v' (i + 1)) := fun W' v' k1 k2 => HP.out.turn (below_on hb1 (below_alloc _ _)) k1 k2
      have HS : Hid (w.heap.size ≤ ((wr.alloc (.cells #[.int .i64 2, .int .i64 1, .int .i64 0, .int .i64 4] 3)).alloc (.cells #[.int .i64 (wrap64 (y + (i : Int)))] 2)).heap.size) := (below_on HP.out.2.2.2.1 (below_on hb1 (below_alloc _ _))).size
      have ew : IntKind.i64.wrap (y + (i : Int)) = wrap64 (y + (i : Int)) := by rw [IntKind.wrap_i64, wrap64]
      clear HP hb1 hkq
      generalize wrap64 (y + (i : Int)) = z at *
      go_wp2_with (at_builtin; refine wpList_append_own_at _ rfl _ _ 30 rfl w.heap.size 2 i0 (.int .i64 0) 1 8 Tryz.underlying30 hi0 hz0 hz1 hz2 rfl (by decide) _ i (zc (valsN y i)) rfl HO.out ⟨wr.heap.size + 1, 0, none⟩ 1 1 [.int .i64 z] rfl rfl ?d1 ?d2 ?d3 ?d4 ?d5 ?_)
      case d1 =>
        intro j u hj
        match j, hj with
        | 0, hj => simp at hj; subst hj; simp [Addr.add]
      case d2 =>
        intro u hu
        simp at hu
        subst hu
        rfl
      case d3 => unfold maxLen; omega
      case d4 => omega
      case d5 => exact HS.out
      intro v9 w9 o9 hg9 _ _
      obtain ⟨a9, n9, c9, rfl⟩ := own_slice o9
      obtain ⟨⟨q1, q2⟩, hp9⟩ := HT.out w9 _ o9 hg9
      have HP9 := hide hp9
      clear o9 hg9 hp9 HT HO hcell p0 p1
      go_wp2_with fail
      go_roundw
      case rel => exact ⟨i + 1, _, by omega, by go_num, HP9⟩
      case measure => simp [intOf]; omega
    · obtain rfl : i = cn := by omega
      have t1 : ¬ (i : Int) < (i : Int) := by omega
      have hp := HP.out
      have hkr := (hb1.block w.heap.size (lt_of_block hp.2.2.1)).trans hp.2.2.1
      have f0 := frozen_of_row _ w.heap.size 0 _ 32 hkr
      have f1 := frozen_of_row _ w.heap.size 1 _ 32 hkr
      have r0 : (wr.alloc (.cells #[.int .i64 2, .int .i64 1, .int .i64 0, .int .i64 4] 3)).cell? ⟨w.heap.size, 0, none⟩ = some (.int .i64 0) := by rw [cell_of_row _ w.heap.size _ _ 32 (0, 0) hkr]; rfl
      have r1 : (wr.alloc (.cells #[.int .i64 2, .int .i64 1, .int .i64 0, .int .i64 4] 3)).cell? ⟨w.heap.size, 1, none⟩ = some (.slice none 0 0) := by rw [cell_of_row _ w.heap.size _ _ 32 (0, 0) hkr]; rfl
      have HE : Hid ((((wr.alloc (.cells #[.int .i64 2, .int .i64 1, .int .i64 0, .int .i64 4] 3)).setCell ⟨w.heap.size, 0, none⟩ (.int .i64 ((k : Int) + 1))).setCell ⟨w.heap.size, 1, none⟩ v).ownsRow w.heap.size 2 1 v i (zc (valsN y i)) ∧ Below w.heap.size w (((wr.alloc (.cells #[.int .i64 2, .int .i64 1, .int .i64 0, .int .i64 4] 3)).setCell ⟨w.heap.size, 0, none⟩ (.int .i64 ((k : Int) + 1))).setCell ⟨w.heap.size, 1, none⟩ v)) := by
        have o1 := own_later hp.2.1 hb1
        have hne := block_kind o1 hkr (by decide)
        exact ⟨own_set (own_set o1 hne) hne, below_set (below_set (below_on hp.2.2.2.1 hb1) (Nat.le_refl _)) (Nat.le_refl _)⟩
      obtain ⟨av, nv, cv, rfl⟩ := own_slice hp.2.1
      clear hp hkr hkq hb1 HP
      go_wp2_with fail
      (try simp only [Exit.inBlock, Exit.then])
      refine bodyPost_ret (v := .agg #[.int .i64 ((k : Int) + 1), .slice av nv cv]) ?_ rfl ⟨_, rfl, HE.out⟩
      rw [results_cell_one rfl]
      go_simp
end Go.Proofs.YtafmiolehlagkaaGreat

/-
  World: what WorldStale reckons with.
-/
namespace Go.Proofs.YtafmiolehlagkaaGreat
open Go.RowKit
set_option maxRecDepth 100000
def bz (l : List Bool) : List Value := l.map Value.bool
theorem bz_len (l : List Bool) : (bz l).length = l.length := by simp [bz]
theorem bz_append (a b : List Bool) : bz (a ++ b) = bz a ++ bz b := by simp [bz]
theorem bz_at (l : List Bool) (i : Nat) (h : i < l.length) : (bz l)[i]? = some (.bool l[i]) := by simp [bz, h]
theorem bz_set (l : List Bool) (i : Nat) (x : Bool) : (bz l).set i (.bool x) = bz (l.set i x) := by simp [bz, List.map_set]
def cntB (l : List Bool) : Nat := (l.filter id).length
theorem cnt_push (l : List Bool) : cntB (l ++ [true]) = cntB l + 1 := by simp [cntB]
theorem cnt_set (l : List Bool) (k : Nat) (hk : k < l.length) (h : l[k] = true) : cntB (l.set k false) + 1 = cntB l := by
  have e1 : l.set k false = l.take k ++ false :: l.drop (k + 1) := List.set_eq_take_append_cons_drop ▸ by simp [hk]
  have e2 : l = l.take k ++ true :: l.drop (k + 1) := by
    rw [← h, List.getElem_cons_drop, List.take_append_drop]
  unfold cntB
  rw [e1]
  conv => rhs; rw [e2]
  simp [List.filter_append]
  omega
/-- Who is there, of all. -/
def aliveL (all : List (Nat × Nat)) (onl : List Bool) : List (Nat × Nat) := ((all.zip onl).filter (fun x => x.2)).map (·.1)
theorem alive_len {all : List (Nat × Nat)} {onl : List Bool} (h : all.length = onl.length) : (aliveL all onl).length = cntB onl := by
  have e : (all.zip onl).map (·.2) = onl := List.map_snd_zip (by omega)
  unfold aliveL cntB
  conv => rhs; rw [← e, List.filter_map]
  simp
theorem alive_nodup {all : List (Nat × Nat)} {onl : List Bool} (h : all.length = onl.length) (hn : all.Nodup) : (aliveL all onl).Nodup := by
  have e : (all.zip onl).map (·.1) = all := List.map_fst_zip (by omega)
  have hs : (aliveL all onl).Sublist ((all.zip onl).map (·.1)) := List.Sublist.map _ List.filter_sublist
  rw [e] at hs
  exact hn.sublist hs
theorem alive_mem {all : List (Nat × Nat)} {onl : List Bool} (h : all.length = onl.length) (p : Nat × Nat) : p ∈ aliveL all onl ↔ ∃ k, ∃ (h1 : k < all.length) (h2 : k < onl.length), all[k] = p ∧ onl[k] = true := by
  unfold aliveL
  rw [List.mem_map]
  constructor
  · rintro ⟨⟨x, b⟩, hx, rfl⟩
    obtain ⟨h1, h2⟩ := List.mem_filter.1 hx
    obtain ⟨k, hk, e⟩ := List.getElem_of_mem h1
    rw [List.length_zip] at hk
    rw [List.getElem_zip] at e
    simp only [Prod.mk.injEq] at e
    exact ⟨k, by omega, by omega, e.1, by rw [e.2]; exact h2⟩
  · rintro ⟨k, h1, h2, rfl, h4⟩
    refine ⟨(all[k], onl[k]), List.mem_filter.2 ⟨?_, h4⟩, rfl⟩
    have hk : k < (all.zip onl).length := by rw [List.length_zip]; omega
    have := List.getElem_mem hk
    rwa [List.getElem_zip] at this
/-- Behind t rounds: all that were given, which of them are there, and how many. -/
def Sl (t : Nat) (gs fr : List Nat) (all : List (Nat × Nat)) (onl : List Bool) : Prop :=
  all.length = onl.length ∧ all.length ≤ t ∧ (∀ x ∈ gs, x ≤ t) ∧ (∀ p ∈ all, p.1 < gs.length ∧ p.2 ≤ gs.getD p.1 0) ∧ all.Nodup ∧ (∀ k (h1 : k < all.length) (h2 : k < onl.length), livesOf gs fr (all[k].1 : Int) (all[k].2 : Int) = onl[k]) ∧ ∀ a b, livesOf gs fr a b = true → ∃ p ∈ all, a = (p.1 : Int) ∧ b = (p.2 : Int)
section
variable {t : Nat} {gs fr : List Nat} {all : List (Nat × Nat)} {onl : List Bool}
theorem Sl.start : Sl 0 [] [] [] [] := ⟨rfl, Nat.le_refl _, fun x hx => (by cases hx), fun x hx => (by cases hx), List.nodup_nil, fun k h => absurd h (by simp), fun a b h => by simp [livesOf, isOn] at h⟩
theorem Sl.more (h : Sl t gs fr all onl) : Sl (t + 1) gs fr all onl := ⟨h.1, by have := h.2.1; omega, fun x hx => by have := h.2.2.1 x hx; omega, h.2.2.2⟩
theorem Sl.alive (h : Sl t gs fr all onl) (p : Nat × Nat) : p ∈ aliveL all onl ↔ livesOf gs fr (p.1 : Int) (p.2 : Int) = true := by
  obtain ⟨h1, h2, h3, h4, h5, h6, h7⟩ := h
  rw [alive_mem h1]
  constructor
  · rintro ⟨k, k1, k2, rfl, k4⟩
    rw [h6 k k1 k2, k4]
  · intro hl
    obtain ⟨q, hq, e1, e2⟩ := h7 _ _ hl
    obtain ⟨k, hk, rfl⟩ := List.getElem_of_mem hq
    have : p = all[k] := Prod.ext (by omega) (by omega)
    subst this
    exact ⟨k, hk, by omega, rfl, by rw [← h6 k hk (by omega)]; exact hl⟩
theorem Sl.idx (h : Sl t gs fr all onl) : ((aliveL all onl).map (·.1)).Nodup ∧ ∀ i, i ∈ (aliveL all onl).map (·.1) ↔ i < gs.length ∧ gs.getD i 0 ≤ 1000000 ∧ i ∉ fr := by
  have hm := h.alive
  refine ⟨List.pairwise_map.2 (List.Pairwise.imp_of_mem (fun {x y} hx hy hne e => ?_) (alive_nodup h.1 h.2.2.2.2.1)), fun i => ?_⟩
  · obtain ⟨i, i1, i2, i3, i4, i5⟩ := (lives_iff _ _ _ _).1 ((hm x).1 hx)
    obtain ⟨j, j1, j2, j3, j4, j5⟩ := (lives_iff _ _ _ _).1 ((hm y).1 hy)
    have : i = j := by omega
    subst this
    exact hne (Prod.ext e (by omega))
  · rw [List.mem_map]
    constructor
    · rintro ⟨p, hp, rfl⟩
      obtain ⟨i, i1, i2, i3, i4, i5⟩ := (lives_iff _ _ _ _).1 ((hm p).1 hp)
      have : i = p.1 := by omega
      subst this
      exact ⟨i2, i3, i4⟩
    · rintro ⟨i1, i2, i3⟩
      exact ⟨(i, gs.getD i 0), (hm _).2 ((lives_iff _ _ _ _).2 ⟨i, rfl, i1, i2, i3, rfl⟩), rfl⟩
theorem Sl.len (h : Sl t gs fr all onl) : ((aliveL all onl).map (·.1)).length = cntB onl := by rw [List.length_map, alive_len h.1]
theorem Sl.room (h : Sl t gs fr all onl) (ho : Ok 200 gs fr) (hr : fr ≠ [] ∨ gs.length < 200) : cntB onl < 200 := by
  obtain ⟨h1, h2⟩ := h.idx
  rw [← h.len]
  cases fr with
  | nil =>
    have := nodup_len gs.length _ h1 (fun i hi => ((h2 i).1 hi).1)
    rcases hr with c | c
    · exact absurd rfl c
    · omega
  | cons k r =>
    have hk := (ho.2.2.2.2.2 k (by simp)).1
    have hn : (k :: (aliveL all onl).map (·.1)).Nodup := List.nodup_cons.2 ⟨fun hm => ((h2 k).1 hm).2.2 (by simp), h1⟩
    have := nodup_len gs.length _ hn (fun i hi => by
      rcases List.mem_cons.1 hi with rfl | hi
      · exact hk
      · exact ((h2 i).1 hi).1)
    have := ho.2.2.1
    simp only [List.length_cons] at *
    omega
theorem Sl.full (h : Sl t gs fr all onl) (ht : t ≤ 500) (hf : fr = []) (hg : gs.length = 200) : cntB onl = 200 := by
  obtain ⟨h1, h2⟩ := h.idx
  have hp : ((aliveL all onl).map (·.1)).Perm (List.range 200) := (List.perm_ext_iff_of_nodup h1 List.nodup_range).2 (fun i => by
    rw [h2, List.mem_range, hf]
    constructor
    · rintro ⟨a, -⟩; omega
    · intro hi
      refine ⟨by omega, ?_, by simp⟩
      have : gs.getD i 0 ≤ t := by
        rw [List.getD_eq_getElem?_getD, List.getElem?_eq_getElem (by omega)]
        exact h.2.2.1 _ (List.getElem_mem _)
      omega)
  rw [← h.len, hp.length_eq, List.length_range]
theorem take_fresh (h : Sl t gs fr all onl) : takeE gs fr ∉ all := fun hm => by
  have := h.2.2.2.1 _ hm
  cases fr with
  | nil => simp only [takeE] at this; omega
  | cons k r => simp only [takeE] at this; omega
theorem Sl.take (h : Sl t gs fr all onl) (ho : Ok 200 gs fr) (hr : fr ≠ [] ∨ gs.length < 200) : Sl (t + 1) (takeG gs fr) (takeF fr) (all ++ [takeE gs fr]) (onl ++ [true]) := by
  have hnew := take_fresh h
  have hl := lives_take ho hr
  obtain ⟨h1, h2, h3, h4, h5, h6, h7⟩ := h
  have hgd : ∀ i, gs.getD i 0 ≤ t := fun i => by
    by_cases hi : i < gs.length
    · rw [List.getD_eq_getElem?_getD, List.getElem?_eq_getElem hi]
      exact h3 _ (List.getElem_mem _)
    · simp [hi]
  refine ⟨by simp [h1], by simp; omega, fun x hx => ?_, fun p hp => ?_, ?_, fun k k1 k2 => ?_, fun a b hab => ?_⟩
  · cases fr with
    | nil =>
      simp only [takeG, List.mem_append, List.mem_singleton] at hx
      rcases hx with hx | rfl
      · have := h3 x hx; omega
      · omega
    | cons j r =>
      simp only [takeG] at hx
      rcases List.mem_or_eq_of_mem_set hx with hx | rfl
      · have := h3 x hx; omega
      · have := hgd j; omega
  · cases fr with
    | nil =>
      simp only [takeG, takeE, List.length_append, List.length_singleton, getD_push] at hp ⊢
      rcases List.mem_append.1 hp with hp | hp
      · have := h4 p hp
        rw [if_pos this.1]
        exact ⟨by omega, this.2⟩
      · rw [List.mem_singleton.1 hp]
        dsimp only
        rw [if_neg (by omega), if_pos rfl]
        exact ⟨by omega, Nat.le_refl _⟩
    | cons j r =>
      have hj := (ho.2.2.2.2.2 j (by simp)).1
      simp only [takeG, takeE, List.length_set, getD_set hj] at hp ⊢
      rcases List.mem_append.1 hp with hp | hp
      · have := h4 p hp
        refine ⟨this.1, ?_⟩
        split
        · rename_i e
          rw [← e] at this
          omega
        · exact this.2
      · rw [List.mem_singleton.1 hp]
        dsimp only
        rw [if_pos rfl]
        exact ⟨hj, Nat.le_refl _⟩
  · rw [List.nodup_append]
    refine ⟨h5, by simp, fun x hx y hy e => ?_⟩
    rw [List.mem_singleton.1 hy] at e
    exact hnew (e ▸ hx)
  · by_cases c : k < all.length
    · rw [List.getElem_append_left c, List.getElem_append_left (by omega)]
      rw [← h6 k c (by omega), Bool.eq_iff_iff, hl]
      constructor
      · rintro (e | e)
        · simp only [Prod.mk.injEq] at e
          have : all[k] = takeE gs fr := Prod.ext (by omega) (by omega)
          exact absurd (this ▸ List.getElem_mem c) hnew
        · exact e
      · exact .inr
    · have hk : k = all.length := by simp at k1; omega
      subst hk
      rw [List.getElem_append_right (Nat.le_refl _)]
      have e2 : (onl ++ [true])[all.length]'k2 = true := by
        rw [List.getElem_append_right (by omega)]
        simp
      rw [e2]
      simp only [Nat.sub_self, List.getElem_cons_zero]
      rw [hl]
      exact .inl rfl
  · rcases (hl a b).1 hab with e | e
    · simp only [Prod.mk.injEq] at e
      exact ⟨takeE gs fr, by simp, e.1, e.2⟩
    · obtain ⟨p, hp, e1, e2⟩ := h7 a b e
      exact ⟨p, List.mem_append_left _ hp, e1, e2⟩
theorem Sl.at (h : Sl t gs fr all onl) (ht : t ≤ 500) (k : Nat) (h1 : k < all.length) (h2 : k < onl.length) (hk : onl[k] = true) : all[k].1 < gs.length ∧ gs.getD all[k].1 0 = all[k].2 ∧ gs.getD all[k].1 0 ≤ 1000000 ∧ all[k].1 ∉ fr ∧ gs.getD all[k].1 0 ≠ 1000000 := by
  have := (h.2.2.2.2.2.1 k h1 h2).trans hk
  obtain ⟨i, i1, i2, i3, i4, i5⟩ := (lives_iff _ _ _ _).1 this
  have e : i = all[k].1 := by omega
  subst e
  have hle : gs.getD all[k].1 0 ≤ t := by
    rw [List.getD_eq_getElem?_getD, List.getElem?_eq_getElem i2]
    exact h.2.2.1 _ (List.getElem_mem _)
  exact ⟨i2, by omega, i3, i4, by omega⟩
theorem Sl.give (h : Sl t gs fr all onl) (ht : t ≤ 500) (k : Nat) (k1 : k < all.length) (k2 : k < onl.length) (hk : onl[k] = true) : Sl (t + 1) (giveG gs all[k].1) (giveF gs fr all[k].1) all (onl.set k false) := by
  obtain ⟨a1, a2, a3, a4, a5⟩ := h.at ht k k1 k2 hk
  have hl := lives_give a1 a3 a4
  obtain ⟨h1, h2, h3, h4, h5, h6, h7⟩ := h
  have eG : giveG gs all[k].1 = gs := if_neg a5
  rw [eG] at hl ⊢
  refine ⟨by rw [List.length_set]; exact h1, by omega, fun x hx => by have := h3 x hx; omega, h4, h5, fun j j1 j2 => ?_, fun a b hab => h7 a b ((hl a b).1 hab).2⟩
  rw [List.length_set] at j2
  by_cases c : k = j
  · subst c
    rw [List.getElem_set_self, ← Bool.not_eq_true, hl]
    rintro ⟨hne, -⟩
    exact hne (by rw [a2])
  · rw [List.getElem_set_ne c, ← h6 j j1 j2, Bool.eq_iff_iff, hl]
    refine ⟨fun h => h.2, fun h => ⟨fun e => ?_, h⟩⟩
    simp only [Prod.mk.injEq] at e
    exact c (nodup_at h5 k1 j1 (Prod.ext (by omega) (by omega)))
end
end Go.Proofs.YtafmiolehlagkaaGreat

/-
  World: WorldStale's state: the world, all that were given, and which of them are there.
-/
namespace Go.Proofs.YtafmiolehlagkaaGreat
open Go.RowKit
set_option maxRecDepth 100000
section
variable {w W W' : World} {own own' : Nat → Nat} {gw N : Nat} {ks : List Kind} {gs fr : List Nat} {C : Co}
theorem Wn.frame {S : Nat → Prop} (h : Wn W own gw N ks gs fr C) (hm : Mv W W' S) (hS : ∀ k, k < W.heap.size → S k → own k = 0) : Wn W' (rel own W 0) gw N ks gs fr C := by
  obtain ⟨vk, gp, gm, gt, q, T, h1, h2⟩ := h
  exact ⟨vk, gp, gm, gt, q, T, h1.frame (.inl rfl) hm (fun k hk e => .inl (hS k hk e)), h2⟩
theorem Wn.lives (h : Wn W own gw N ks gs fr C) (a b : Int) : Calls Tryz.prog 32 #[.pointer (some ⟨gw, 0, none⟩), .agg #[.int .i64 a, .int .i64 b]] W fun e w' => e = .returned (.bool (C (a, b)).isSome) ∧ Below W.heap.size W w' := by
  obtain ⟨vk, gp, gm, gt, q, T, h1, h2, h3, h4, h5, h6⟩ := h
  rw [← h5]
  exact wlives_any h1 a b
def liveE (C : Co) (a b z : Int) : Int := if (C (a, b)).isSome then z else 41
theorem Wn.row (h : Wn W own gw N ks gs fr C) (a b : Int) : Calls Tryz.prog 33 #[.pointer (some ⟨gw, 0, none⟩), .agg #[.int .i64 a, .int .i64 b]] W fun e w' => (∃ x y a' n c, e = .returned (.tuple #[.agg #[.int .i64 x, .int .i64 y, .slice a' n c], .int .i64 (liveE C a b 0)])) ∧ Below W.heap.size W w' := by
  have ho := h.ok
  obtain ⟨vk, gp, gm, gt, q, T, h1, h2, h3, h4, h5, h6⟩ := h
  unfold liveE
  cases hc : C (a, b) with
  | none =>
    refine (row_stale h1 a b (by rw [h5, hc]; rfl)).mono ?_
    rintro e w' ⟨rfl, hb⟩
    exact ⟨⟨0, 0, none, 0, 0, rfl⟩, hb⟩
  | some p =>
    obtain ⟨s, vals⟩ := p
    have hl : livesOf gs fr a b = true := by rw [h5, hc]; rfl
    have hf := fC_some hc
    obtain ⟨hs, ⟨g, hq⟩, -⟩ := h2.1 _ s hf
    obtain ⟨i, hi, hx, -⟩ := h3 _ s vals hc
    refine (row_live h1 a b hl (inb_of ho hl) h4.2.1 s g i hf hq hs hi hx (h2.2 s g hq).2.1).mono ?_
    rintro e w' ⟨v, rfl, ⟨L, hL, -⟩, hb⟩
    obtain ⟨a', n, c, rfl⟩ := own_slice hL
    exact ⟨⟨a, b, a', n, c, rfl⟩, hb⟩
theorem Wn.has (h : Wn W own gw N ks gs fr C) (a b : Int) : ∃ s, s < 8192 ∧ (livesOf gs fr a b = true → fC C (a, b) = some s) := by
  obtain ⟨vk, gp, gm, gt, q, T, h1, h2, h3, h4, h5, h6⟩ := h
  cases hc : C (a, b) with
  | none => exact ⟨0, by omega, fun e => by rw [h5, hc] at e; cases e⟩
  | some p =>
    obtain ⟨s, vals⟩ := p
    exact ⟨s, (h2.1 _ s (fC_some hc)).1, fun _ => fC_some hc⟩
/-- What all calls of a kind that is none answer. -/
theorem Wn.errs (h : Wn W own gw N ks gs fr C) (a b x : Int) (hib : InB (a, b)) (hx : ¬ (1 ≤ x ∧ x ≤ (ks.length : Int))) :
    (Calls Tryz.prog 34 #[.pointer (some ⟨gw, 0, none⟩), .agg #[.int .i64 a, .int .i64 b], .int .i64 x] W fun e w' => e = .returned (.tuple #[.agg #[.int .i64 0, .slice none 0 0], .int .i64 (liveE C a b 60)]) ∧ Below W.heap.size W w') ∧
    (∀ av nv cv, Calls Tryz.prog 35 #[.pointer (some ⟨gw, 0, none⟩), .agg #[.int .i64 a, .int .i64 b], .agg #[.int .i64 x, .slice av nv cv]] W fun e w' => e = .returned (.int .i64 (liveE C a b 60)) ∧ Below W.heap.size W w') ∧
    (Calls Tryz.prog 26 #[.pointer (some ⟨gw, 0, none⟩), .agg #[.int .i64 a, .int .i64 b], .int .i64 x] W fun e w' => e = .returned (.int .i64 (liveE C a b 60)) ∧ Below W.heap.size W w') ∧
    ∀ av nv cv, Calls Tryz.prog 27 #[.pointer (some ⟨gw, 0, none⟩), .agg #[.int .i64 a, .int .i64 b], .agg #[.int .i64 x, .slice av nv cv]] W fun e w' => e = .returned (.int .i64 (liveE C a b 60)) ∧ Below W.heap.size W w' := by
  obtain ⟨s, hs, hf⟩ := h.has a b
  obtain ⟨vk, gp, gm, gt, q, T, h1, h2, h3, h4, h5, h6⟩ := h
  have hz : hasE ks (livesOf gs fr a b) s x = liveE C a b 60 := by
    unfold hasE liveE
    rw [h5]
    by_cases c : (C (a, b)).isSome = true
    · rw [if_pos c, if_pos c, if_neg hx]
    · rw [if_neg c, if_neg c]
  have hz0 : liveE C a b 60 ≠ 0 := by
    unfold liveE
    split <;> omega
  refine ⟨get_err h1 a b x hib h4.2.1 s hs hf _ hz hz0, fun av nv cv => wset_err h1 a b x hib h4.2.1 s hs hf _ hz hz0 av nv cv, remove_err h1 a b x hib h4.2.1 s hs hf _ hz hz0, fun av nv cv => ?_⟩
  by_cases c : livesOf gs fr a b = true
  · have e : liveE C a b 60 = 60 := by
      unfold liveE
      rw [h5] at c
      rw [if_pos c]
    rw [e]
    refine Go.Proofs.YtafmiolehlagkaaGreat.add_err h1 a b x hib h4.2.1 s hs (hf c) av nv cv c 60 ?_ (by omega)
    unfold comeS
    rw [if_neg hx]
  · have c2 : livesOf gs fr a b = false := by simpa using c
    have e : liveE C a b 60 = 41 := by
      unfold liveE
      rw [h5] at c
      rw [if_neg c]
    rw [e]
    exact add_stale h1 a b x av nv cv c2
/-- How many rows there are. -/
theorem Wn.count (h : Wn W own gw N ks gs fr C) {t : Nat} {all : List (Nat × Nat)} {onl : List Bool} (hs : Sl t gs fr all onl) : Calls Tryz.prog 29 #[.pointer (some ⟨gw, 0, none⟩)] W fun e w' => (∃ a c, e = .returned (.slice a (cntB onl) c)) ∧ Below W.heap.size W w' := by
  have ho := h.ok
  obtain ⟨vk, gp, gm, gt, q, T, h1, h2, h3, h4, h5, h6⟩ := h
  refine (rows_any h1 h2 h4.2.1 (fun E e1 e2 => lives_cnt h5 ho.2.2.1 E e1 e2)).mono ?_
  rintro e w' ⟨v, rfl, ⟨R, r1, r2, r3, r4, r5, r6⟩, hb⟩
  obtain ⟨a, c, rfl⟩ := own_len r1
  have hn : ((aliveL all onl).map (fun p => ((p.1 : Int), (p.2 : Int)))).Nodup := List.pairwise_map.2 ((alive_nodup hs.1 hs.2.2.2.2.1).imp (fun {x y} hne e => hne (by
    simp only [Prod.mk.injEq] at e
    exact Prod.ext (by omega) (by omega))))
  have hp : (R.map entR).Perm ((aliveL all onl).map (fun p => ((p.1 : Int), (p.2 : Int)))) := (List.perm_ext_iff_of_nodup r3 hn).2 (fun e => by
    constructor
    · intro he
      obtain ⟨r, hr, rfl⟩ := List.mem_map.1 he
      have := (r4 _ (r6 r hr)).2 he
      rw [fC_is, ← h5] at this
      obtain ⟨i, i1, i2, i3, i4, i5⟩ := (lives_iff _ _ _ _).1 this
      refine List.mem_map.2 ⟨(i, gs.getD i 0), (hs.alive _).2 ?_, ?_⟩
      · rw [← i1, ← i5]; exact this
      · exact Prod.ext i1.symm i5.symm
    · intro he
      obtain ⟨p, hp, rfl⟩ := List.mem_map.1 he
      have hl := (hs.alive p).1 hp
      refine (r4 _ (inb_of ho hl)).1 ?_
      rw [fC_is, ← h5]
      exact hl)
  have hlen := hp.length_eq
  rw [List.length_map, List.length_map, alive_len hs.1] at hlen
  exact ⟨⟨a, c, by rw [hlen]⟩, hb⟩
end
/-- All of it: the world, all that were given and which of them are there (A, O), and the two lists in memory. -/
def Sx (w : World) (gw t : Nat) (W : World) (own : Nat → Nat) (v6 v7 : Value) (gs fr : List Nat) (C : Co) (all : List (Nat × Nat)) (onl : List Bool) (A : List (Nat × Nat)) (O : List Bool) : Prop :=
  Wn W own gw (4 * t) usualK gs fr C ∧ Sl t gs fr A O ∧ W.ownsRow w.heap.size 29 2 v6 all.length (ec all) ∧ W.ownsRow w.heap.size 4 1 v7 onl.length (bz onl) ∧ (∀ k, v6.ownBlock = some k → own k = 0) ∧ (∀ k, v7.ownBlock = some k → own k = 0) ∧ Fr w W own
section
variable {w W W' W1 : World} {own own' : Nat → Nat} {gw t : Nat} {v6 v7 : Value} {gs fr : List Nat} {C : Co} {all A : List (Nat × Nat)} {onl O : List Bool}
theorem Sx.later (h : Sx w gw t W own v6 v7 gs fr C all onl A O) (hb : Below W.heap.size W W') : Sx w gw t W' (rel own W 0) v6 v7 gs fr C all onl A O := by
  obtain ⟨h1, h2, h3, h4, h5, h6, h7⟩ := h
  exact ⟨h1.later hb, h2, own_later h3 hb, own_later h4 hb, fun k e => (rel_old (h3.lt k e).2).trans (h5 k e), fun k e => (rel_old (h4.lt k e).2).trans (h6 k e), h7.later hb⟩
theorem Sx.turn (h : Sx w gw t W own v6 v7 gs fr C all onl A O) (hk : Wk own own' W W') {gs' fr' : List Nat} {C' : Co} {t' : Nat} {A' : List (Nat × Nat)} {O' : List Bool} (hw : Wn W' own' gw (4 * t') usualK gs' fr' C') (hs : Sl t' gs' fr' A' O') : Sx w gw t' W' own' v6 v7 gs' fr' C' all onl A' O' := by
  obtain ⟨h1, h2, h3, h4, h5, h6, h7⟩ := h
  exact ⟨hw, hs, hk.mv.own h3 (fun k e e2 => e2 (h5 k e)), hk.mv.own h4 (fun k e e2 => e2 (h6 k e)), fun k e => (hk.1 k (h3.lt k e).2).trans (h5 k e), fun k e => (hk.1 k (h4.lt k e).2).trans (h6 k e), h7.wk hk⟩
theorem ent_bool {k : Nat} (h : Sx w gw t W own v6 v7 gs fr C all onl A O) (e : v6.ownBlock = some k) : v7.ownBlock ≠ some k := own_kinds h.2.2.1 h.2.2.2.1 (by decide) e
theorem Fr.frame {S : Nat → Prop} (h : Fr w W own) (hm : Mv W W' S) (hS : ∀ k, S k → w.heap.size ≤ k) : Fr w W' (rel own W 0) := ⟨h.1.trans (hm.below h.1.size hS), fun k hk => (rel_old (Nat.lt_of_lt_of_le hk h.1.size)).trans (h.2 k hk)⟩
/-- One more in the first list. -/
theorem Sx.push6 (h : Sx w gw t W own v6 v7 gs fr C all onl A O) {a b : Nat} {v9 : Value} (ho : W'.ownsRow w.heap.size 29 2 v9 (all.length + 1) (ec all ++ [.int .i64 (a : Int), .int .i64 (b : Int)])) (hg : W.grownBy W' v6.ownBlock) (ha : v9.ownBlock = v6.ownBlock ∨ v9.ownBlock = some W.heap.size) : Sx w gw t W' (rel own W 0) v9 v7 gs fr C (all ++ [(a, b)]) onl A O := by
  have hne := fun k e => ent_bool (k := k) h e
  obtain ⟨h1, h2, h3, h4, h5, h6, h7⟩ := h
  have hm : Mv W W' (fun k => v6.ownBlock = some k) := (Mv.refl W _).grown hg (fun k _ e => e)
  refine ⟨h1.frame hm (fun k _ e => h5 k e), h2, ?_, own_kept h4 hg (fun k e e2 => hne k e2 e), fun k e => ?_, fun k e => (rel_old (h4.lt k e).2).trans (h6 k e), h7.frame hm (fun k e => (h3.lt k e).1)⟩
  · rw [List.length_append, ec_append]
    exact ho
  · rcases ha with c | c
    · rw [c] at e
      exact (rel_old (h3.lt k e).2).trans (h5 k e)
    · rw [c] at e
      obtain rfl := Option.some.inj e
      exact rel_new (Nat.le_refl _)
/-- One more in the second list. -/
theorem Sx.push7 (h : Sx w gw t W own v6 v7 gs fr C all onl A O) {b : Bool} {v9 : Value} (ho : W'.ownsRow w.heap.size 4 1 v9 (onl.length + 1) (bz onl ++ [.bool b])) (hg : W.grownBy W' v7.ownBlock) (ha : v9.ownBlock = v7.ownBlock ∨ v9.ownBlock = some W.heap.size) : Sx w gw t W' (rel own W 0) v6 v9 gs fr C all (onl ++ [b]) A O := by
  have hne := fun k e => ent_bool (k := k) h e
  obtain ⟨h1, h2, h3, h4, h5, h6, h7⟩ := h
  have hm : Mv W W' (fun k => v7.ownBlock = some k) := (Mv.refl W _).grown hg (fun k _ e => e)
  refine ⟨h1.frame hm (fun k _ e => h6 k e), h2, own_kept h3 hg (fun k e e2 => hne k e e2), ?_, fun k e => (rel_old (h3.lt k e).2).trans (h5 k e), fun k e => ?_, h7.frame hm (fun k e => (h4.lt k e).1)⟩
  · rw [List.length_append, bz_append]
    exact ho
  · rcases ha with c | c
    · rw [c] at e
      exact (rel_old (h4.lt k e).2).trans (h6 k e)
    · rw [c] at e
      obtain rfl := Option.some.inj e
      exact rel_new (Nat.le_refl _)
/-- The second list is written over. -/
theorem Sx.set7 {g c : Nat} (h : Sx w gw t W own v6 (.slice (some ⟨g, 0, none⟩) onl.length c) gs fr C all onl A O) (k : Nat) (b : Bool) : Sx w gw t (W.setCell ⟨g, k, none⟩ (.bool b)) (rel own W 0) v6 (.slice (some ⟨g, 0, none⟩) onl.length c) gs fr C all (onl.set k b) A O := by
  have hne := fun k e => ent_bool (k := k) h e
  obtain ⟨h1, h2, h3, h4, h5, h6, h7⟩ := h
  have hm : Mv W (W.setCell ⟨g, k, none⟩ (.bool b)) (fun j => j = g) := Mv.set (S := fun j => j = g) (Mv.refl W _) rfl k (.bool b)
  refine ⟨h1.frame hm (fun j _ e => by subst e; exact h6 _ rfl), h2, own_set h3 (fun e => hne g e rfl), ?_, fun j e => (rel_old (h3.lt j e).2).trans (h5 j e), fun j e => (rel_old (h4.lt j e).2).trans (h6 j e), h7.frame hm (fun j e => by subst e; exact (h4.lt _ rfl).1)⟩
  rw [List.length_set, ← bz_set]
  exact (h4.stored k (.bool b)).1
theorem oc0 (a : Option Addr) (c : Nat) : comeL usualK 0 [(((0 : Nat) : Int) + 1, a, c4 0, c)] = 0 := by kernel_rfl
theorem oc1 (a : Option Addr) (c : Nat) : comeL usualK 0 [(((1 : Nat) : Int) + 1, a, c4 1, c)] = 0 := by kernel_rfl
theorem oc2 (a : Option Addr) (c : Nat) : comeL usualK 0 [(((2 : Nat) : Int) + 1, a, c4 2, c)] = 0 := by kernel_rfl
theorem oc3 (a : Option Addr) (c : Nat) : comeL usualK 0 [(((3 : Nat) : Int) + 1, a, c4 3, c)] = 0 := by kernel_rfl
theorem one_come (kk : Nat) (hk : kk < 4) (a : Option Addr) (n c : Nat) (hn : n = c4 kk) : comeL usualK 0 [((kk : Int) + 1, a, n, c)] = 0 := by
  subst hn
  match kk, hk with
  | 0, _ => exact oc0 a c
  | 1, _ => exact oc1 a c
  | 2, _ => exact oc2 a c
  | 3, _ => exact oc3 a c
/-- What a Spawn of one part leaves. -/
def Spawned (w : World) (gw t : Nat) (v6 v7 : Value) (all : List (Nat × Nat)) (onl : List Bool) (e : Ending) (w' : World) : Prop :=
  (cntB onl < 200 ∧ ∃ p : Nat × Nat, e = .returned (.tuple #[.agg #[.int .i64 (p.1 : Int), .int .i64 (p.2 : Int)], .int .i64 0]) ∧ p ∉ all ∧ Hid (∃ own' gs' fr' C', Sx w gw (t + 1) w' own' v6 v7 gs' fr' C' all onl (all ++ [p]) (onl ++ [true]))) ∨
  (cntB onl = 200 ∧ e = .returned (.tuple #[.agg #[.int .i64 0, .int .i64 0], .int .i64 40]) ∧ Hid (∃ own' gs' fr' C', Sx w gw (t + 1) w' own' v6 v7 gs' fr' C' all onl all onl))
theorem Sx.spawn {w2 w3 : World} (h : Sx w gw t W own v6 v7 gs fr C all onl all onl) (ht : t ≤ 300) (hb : Below W.heap.size W w2) (kk : Nat) (hk : kk < 4) (y : Int) (a : Option Addr) (n c : Nat) (ho : w2.ownsRow W.heap.size 2 1 (.slice a n c) (c4 kk) (zc (valsN y (c4 kk)))) (hw3 : w3 = w2.alloc (.cells #[.int .i64 ((kk : Int) + 1), .slice a n c] 32)) :
    Calls Tryz.prog 24 #[.pointer (some ⟨gw, 0, none⟩), .slice (some ⟨w2.heap.size, 0, none⟩) 1 1] w3 fun e w' => Spawned w gw t v6 v7 all onl e w' := by
  have hb3 : Below w2.heap.size w2 w3 := hw3 ▸ below_alloc w2 _
  have hx3 : w3.heap[w2.heap.size]? = some (.cells #[.int .i64 ((kk : Int) + 1), .slice a n c] 32 (0, 0)) := by rw [hw3]; exact heap_alloc_new w2 _
  have h3 := h.later (below_on hb hb3)
  have ho3 := own_later ho hb3
  have hn : n = c4 kk := by
    obtain ⟨x, z, e⟩ := own_len ho
    simp only [Value.slice.injEq] at e
    exact e.2.1
  have hrp : Rp w3 (.slice (some ⟨w2.heap.size, 0, none⟩) 1 1) [((kk : Int) + 1, a, n, c)] := by
    refine .inr ⟨_, 0, 1, rfl, Nat.le_refl 1, by unfold maxLen; omega, fun j u hj => ?_⟩
    rw [Nat.zero_add, cell_of_row w3 _ j _ 32 (0, 0) hx3]
    simpa [pz] using hj
  have hcome := one_come kk hk a n c hn
  have hok := h3.1.ok
  have hsb := hb.size
  have hlt := lt_of_block hx3
  by_cases hroom : fr ≠ [] ∨ gs.length < 200
  · refine (h3.1.spawn (by omega) hroom _ [((kk : Int) + 1, a, n, c)] (fun _ => valsN y (c4 kk)) hrp hcome ?_ ?_ ?_ ?_).mono ?_
    · intro k e
      simp only [Value.ownBlock, Option.some.injEq] at e
      subst e
      exact ⟨rel_new hsb, hlt⟩
    · intro p hp
      rw [List.mem_singleton.1 hp]
      refine ⟨?_, fun e => ?_⟩
      · have := Iz.own (l := valsN y (c4 kk)) (by rw [valsN_len]; exact ho3)
        exact this
      · rcases ho3.2 with ⟨e', -⟩ | ⟨g, c', cur, e', -⟩
        · simp only [Value.slice.injEq] at e'
          exact Prod.ext e'.2.1 e'.2.2
        · simp only [Value.slice.injEq] at e'
          dsimp only at e
          rw [e] at e'
          cases e'.1
    · intro p hp k e
      rw [List.mem_singleton.1 hp] at e
      have := ho3.lt k e
      exact ⟨rel_new this.1, this.2⟩
    · intro p _
      exact valsN_fit _ _
    · rintro e w' ⟨rfl, vals, own', r1, r2, -⟩
      refine .inl ⟨h3.2.1.room hok hroom, takeE gs fr, rfl, take_fresh h3.2.1, own', _, _, _, h3.turn r2 (r1.up (by omega)) (h3.2.1.take hok hroom)⟩
  · have hf : fr = [] := by
      by_cases c : fr = []
      · exact c
      · exact absurd (.inl c) hroom
    have hg : gs.length = 200 := by
      have := hok.2.2.1
      by_cases c : gs.length < 200
      · exact absurd (.inr c) hroom
      · omega
    refine (h3.1.spawn_full hf hg _ _ hrp hcome).mono ?_
    rintro e w' ⟨rfl, hb4⟩
    have h4 := h3.later hb4
    exact .inr ⟨h3.2.1.full (by omega) hf hg, rfl, _, gs, fr, C, h4.1.up (by omega), h4.2.1.more, h4.2.2⟩
theorem Sx.despawn (h : Sx w gw t W own v6 v7 gs fr C all onl all onl) (ht : t ≤ 300) (k : Nat) (k1 : k < all.length) (k2 : k < onl.length) :
    Calls Tryz.prog 31 #[.pointer (some ⟨gw, 0, none⟩), .agg #[.int .i64 (all[k].1 : Int), .int .i64 (all[k].2 : Int)]] W fun e w' => e = .returned (.int .i64 (if onl[k] then 0 else 41)) ∧ Hid (∃ own' gs' fr' C', Sx w gw (t + 1) w' own' v6 v7 gs' fr' C' all onl all (onl.set k false)) := by
  have hlv : (C ((all[k].1 : Int), (all[k].2 : Int))).isSome = onl[k] := by
    obtain ⟨vk, gp, gm, gt, q, T, _, _, _, _, h5, _⟩ := h.1
    rw [← h5]
    exact h.2.1.2.2.2.2.2.1 k k1 k2
  cases hk : onl[k] with
  | false =>
    rw [hk] at hlv
    refine (h.1.despawn_stale _ _ hlv).mono ?_
    rintro e w' ⟨rfl, hb⟩
    have h4 := h.later hb
    have es : onl.set k false = onl := by
      refine List.ext_getElem (by simp) (fun j j1 j2 => ?_)
      by_cases c : k = j
      · subst c
        rw [List.getElem_set_self, hk]
      · rw [List.getElem_set_ne c]
    rw [es]
    exact ⟨rfl, _, gs, fr, C, h4.1.up (by omega), h4.2.1.more, h4.2.2⟩
  | true =>
    obtain ⟨a1, a2, a3, a4, a5⟩ := h.2.1.at (by omega) k k1 k2 hk
    rw [hk] at hlv
    rw [← a2] at hlv ⊢
    refine (h.1.despawn (by omega) hlv a1 a3 a4).mono ?_
    rintro e w' ⟨rfl, own', r1, r2⟩
    exact ⟨rfl, own', _, _, _, h.turn r2 (r1.up (by omega)) (h.2.1.give (by omega) k k1 k2 hk)⟩
end
end Go.Proofs.YtafmiolehlagkaaGreat

/-
  World: WorldStale's walk.
-/
namespace Go.Proofs.YtafmiolehlagkaaGreat
open Go.RowKit
set_option maxRecDepth 100000
theorem info4 : (Tryz.prog.info? 4).map (fun i => (i.zero, i.size, i.bytes)) = some (some (.bool false), 1, 1) := by kernel_rfl
abbrev Dd := Int × Int × Int × Int
/-- Deeds that came in. -/
def De (w : World) (v : Value) (ds : List Dd) : Prop :=
  ∃ ao c, v = .slice ao ds.length c ∧ ds.length ≤ c ∧ c ≤ maxLen ∧ ∀ i (hi : i < ds.length), ∃ g o, ao = some ⟨g, o, none⟩ ∧ w.cell? ⟨g, o + i * 4, none⟩ = some (.int .i64 ds[i].1) ∧ w.cell? ⟨g, o + i * 4 + 1, none⟩ = some (.int .i64 ds[i].2.1) ∧ w.cell? ⟨g, o + i * 4 + 2, none⟩ = some (.int .i64 ds[i].2.2.1) ∧ w.cell? ⟨g, o + i * 4 + 3, none⟩ = some (.int .i64 ds[i].2.2.2)
def Bd (x : Int) : Prop := -9223372036854775808 ≤ x ∧ x ≤ 9223372036854775807
def DdOk (d : Dd) : Prop := Bd d.1 ∧ Bd d.2.1 ∧ Bd d.2.2.1 ∧ Bd d.2.2.2
/-- What is asked of one at the end. -/
theorem Sx.asks {w W W' : World} {own : Nat → Nat} {gw t : Nat} {v6 v7 : Value} {gs fr : List Nat} {C : Co} {all : List (Nat × Nat)} {onl : List Bool} (h : Sx w gw t W own v6 v7 gs fr C all onl all onl) (hb : Below W.heap.size W W') (ht : t ≤ 300) (k : Nat) (k1 : k < all.length) (k2 : k < onl.length) :
    (Calls Tryz.prog 32 #[.pointer (some ⟨gw, 0, none⟩), .agg #[.int .i64 (all[k].1 : Int), .int .i64 (all[k].2 : Int)]] W' fun e w' => e = .returned (.bool onl[k]) ∧ Below W'.heap.size W' w') ∧
    (Calls Tryz.prog 33 #[.pointer (some ⟨gw, 0, none⟩), .agg #[.int .i64 (all[k].1 : Int), .int .i64 (all[k].2 : Int)]] W' fun e w' => (∃ x y a n c, e = .returned (.tuple #[.agg #[.int .i64 x, .int .i64 y, .slice a n c], .int .i64 (if onl[k] then 0 else 41)])) ∧ Below W'.heap.size W' w') ∧
    (Calls Tryz.prog 34 #[.pointer (some ⟨gw, 0, none⟩), .agg #[.int .i64 (all[k].1 : Int), .int .i64 (all[k].2 : Int)], .int .i64 9] W' fun e w' => e = .returned (.tuple #[.agg #[.int .i64 0, .slice none 0 0], .int .i64 (if onl[k] then 60 else 41)]) ∧ Below W'.heap.size W' w') ∧
    (Calls Tryz.prog 35 #[.pointer (some ⟨gw, 0, none⟩), .agg #[.int .i64 (all[k].1 : Int), .int .i64 (all[k].2 : Int)], .agg #[.int .i64 9, .slice none 0 0]] W' fun e w' => e = .returned (.int .i64 (if onl[k] then 60 else 41)) ∧ Below W'.heap.size W' w') ∧
    (Calls Tryz.prog 26 #[.pointer (some ⟨gw, 0, none⟩), .agg #[.int .i64 (all[k].1 : Int), .int .i64 (all[k].2 : Int)], .int .i64 9] W' fun e w' => e = .returned (.int .i64 (if onl[k] then 60 else 41)) ∧ Below W'.heap.size W' w') ∧
    Calls Tryz.prog 27 #[.pointer (some ⟨gw, 0, none⟩), .agg #[.int .i64 (all[k].1 : Int), .int .i64 (all[k].2 : Int)], .agg #[.int .i64 9, .slice none 0 0]] W' fun e w' => e = .returned (.int .i64 (if onl[k] then 60 else 41)) ∧ Below W'.heap.size W' w' := by
  have h2 := h.later hb
  have hlv : (C ((all[k].1 : Int), (all[k].2 : Int))).isSome = onl[k] := by
    obtain ⟨vk, gp, gm, gt, q, T, _, _, _, _, h5, _⟩ := h.1
    rw [← h5]
    exact h.2.1.2.2.2.2.2.1 k k1 k2
  have hib : InB ((all[k].1 : Int), (all[k].2 : Int)) := by
    have h3 := h.2.1.2.2.2.1 _ (List.getElem_mem k1)
    have h4 := h.1.ok.2.2.1
    have h5 : gs.getD all[k].1 0 ≤ t := by
      rw [List.getD_eq_getElem?_getD, List.getElem?_eq_getElem h3.1]
      exact h.2.1.2.2.1 _ (List.getElem_mem _)
    refine ⟨⟨?_, ?_⟩, ?_, ?_⟩ <;> dsimp only <;> omega
  have e0 : ∀ z, liveE C (all[k].1 : Int) (all[k].2 : Int) z = if onl[k] then z else 41 := fun z => by
    unfold liveE
    rw [hlv]
  obtain ⟨q1, q2, q3, q4⟩ := h2.1.errs _ _ 9 hib (by decide)
  have r1 := h2.1.lives (all[k].1 : Int) (all[k].2 : Int)
  have r2 := h2.1.row (all[k].1 : Int) (all[k].2 : Int)
  rw [hlv] at r1
  rw [e0] at r2 q1 q3
  refine ⟨r1, r2, q1, ?_, q3, ?_⟩
  · have := q2 none 0 0
    rwa [e0] at this
  · have := q4 none 0 0
    rwa [e0] at this
set_option maxHeartbeats 40000000 in
theorem stale_walk (va : Value) (ds : List Dd) (w : World) (ha : De w va ds) (hfit : ∀ d ∈ ds, DdOk d) : Calls Tryz.prog 8 #[va] w fun e w' => e = .returned (.bool true) ∧ Below w.heap.size w w' := by
  obtain ⟨i29, hi29, hy0, hy1, hy2⟩ := info_parts info32
  obtain ⟨i4, hi4, hx0, hx1, hx2⟩ := info_parts info4
  obtain ⟨ao, ca, rfl, hc1, hc2, hc3⟩ := ha
  have hbig : ca ≤ 9223372036854775807 := by unfold maxLen at hc2; omega
  have HA : Hid (∀ i (hi : i < ds.length), ∃ g o, ao = some ⟨g, o, none⟩ ∧ ∀ W, Below w.heap.size w W → W.cell? ⟨g, o + i * 4, none⟩ = some (.int .i64 ds[i].1) ∧ W.cell? ⟨g, o + i * 4 + 1, none⟩ = some (.int .i64 ds[i].2.1) ∧ W.cell? ⟨g, o + i * 4 + 2, none⟩ = some (.int .i64 ds[i].2.2.1) ∧ W.cell? ⟨g, o + i * 4 + 3, none⟩ = some (.int .i64 ds[i].2.2.2)) := fun i hi => by
    obtain ⟨g, o, e, k1, k2, k3, k4⟩ := hc3 i hi
    have key : ∀ (W : World), Below w.heap.size w W → ∀ (p : Addr) (x : Value), w.cell? p = some x → W.cell? p = some x := fun W hW p x hx => (hW.cell (p := p) (World.block_lt_of_cell? w _ hx)).trans hx
    exact ⟨g, o, e, fun W hW => ⟨key W hW _ _ k1, key W hW _ _ k2, key W hW _ _ k3, key W hW _ _ k4⟩⟩
  have HF := hide hfit
  clear hc3 hc2 hfit
  go_enter Tryz.func8, Tryz.ntmps8
  go_wp2_with fail
  refine (shown_any w).mono ?_
  rintro e w1 ⟨rfl, hb1⟩
  have HB1 := hide hb1
  clear hb1
  go_wp2_with fail
  refine (usual_any w1).mono ?_
  rintro e w2 ⟨v, rfl, hk, hb2⟩
  have J1 := hide (wn_new (hk w2 (Below.refl _ _)) usual_may)
  have HB2 := hide (below_on HB1.out hb2)
  obtain ⟨av, cv, rfl, -⟩ := hk w2 (Below.refl _ _)
  clear hk hb2
  go_wp2_with fail
  refine J1.out.mono ?_
  rintro e w3 ⟨gw, rfl, ⟨own, ho, hW⟩, hb3⟩
  have H0 : Hid (∃ own gs fr C, Sx w gw 0 w3 own (.slice none 0 0) (.slice none 0 0) gs fr C [] [] [] []) := ⟨own, [], [], _, hW, Sl.start, World.ownsRow_nil _ _ _ _, World.ownsRow_nil _ _ _ _, fun k e => by simp [Value.ownBlock] at e, fun k e => by simp [Value.ownBlock] at e, below_on HB2.out hb3, fun k hk => ho k (Nat.lt_of_lt_of_le hk HB2.out.size)⟩
  clear J1 hW ho hb3 HB1 HB2
  go_upto_block 0 with fail
  go_cut [6, 7, 8] (fun v6 v7 v8 W => ∃ (t : Nat) (all : List (Nat × Nat)) (onl : List Bool) (a6 : Option Addr) (c6 : Nat) (a7 : Option Addr) (c7 : Nat), t ≤ 300 ∧ v6 = .slice a6 all.length c6 ∧ v7 = .slice a7 onl.length c7 ∧ v8 = .int .i64 (cntB onl : Int) ∧ Hid (∃ own gs fr C, Sx w gw t W own (.slice a6 all.length c6) (.slice a7 onl.length c7) gs fr C all onl all onl))
  case first =>
    go_wp2_with fail
    go_loopw [6, 7, 8, 9] (fun v6 v7 v8 v9 W => ∃ (i : Nat) (all : List (Nat × Nat)) (onl : List Bool) (a6 : Option Addr) (c6 : Nat) (a7 : Option Addr) (c7 : Nat), i ≤ 300 ∧ i ≤ ds.length ∧ v9 = .int .i64 (i : Int) ∧ v6 = .slice a6 all.length c6 ∧ v7 = .slice a7 onl.length c7 ∧ v8 = .int .i64 (cntB onl : Int) ∧ Hid (∃ own gs fr C, Sx w gw i W own (.slice a6 all.length c6) (.slice a7 onl.length c7) gs fr C all onl all onl)) (fun _ _ _ v9 _ => ds.length - (intOf v9).toNat)
    case atStart => exact ⟨0, [], [], none, 0, none, 0, by omega, Nat.zero_le _, rfl, rfl, rfl, rfl, H0⟩
    case round =>
      obtain ⟨i, all, onl, a6, c6, a7, c7, hi3, hid, rfl, rfl, rfl, rfl, HS⟩ := hrel
      clear H0
      obtain ⟨hcap6, hcap7, hal, hol⟩ : (all.length ≤ c6 ∧ c6 ≤ 9223372036854775807) ∧ (onl.length ≤ c7 ∧ c7 ≤ 9223372036854775807) ∧ all.length ≤ i ∧ onl.length = all.length := by
        obtain ⟨own, gs, fr, C, h⟩ := HS.out
        exact ⟨own_cap h.2.2.1, own_cap h.2.2.2.1, h.2.1.2.1, h.2.1.1.symm⟩
      have hcn : cntB onl ≤ 300 := by
        have : cntB onl ≤ onl.length := List.length_filter_le _ _
        omega
      have HOL := hide hol
      clear hol
      by_cases hlt : i < ds.length
      · have t1 : (i : Int) < (ds.length : Int) := by omega
        by_cases h3 : i < 300
        · have t2 : (i : Int) < 300 := by omega
          obtain ⟨g, o, rfl, hcells⟩ := HA.out i hlt
          have hB : Below w.heap.size w wr := by
            obtain ⟨own, gs, fr, C, h⟩ := HS.out
            exact h.2.2.2.2.2.2.1
          have hdk := HF.out _ (List.getElem_mem hlt)
          obtain ⟨d0, d1, d2, d3⟩ := hcells wr hB
          generalize ds[i] = d at *
          obtain ⟨dk, dw, dx, dv⟩ := d
          dsimp only at d0 d1 d2 d3
          obtain ⟨⟨b01, b02⟩, ⟨b11, b12⟩, ⟨b21, b22⟩, -⟩ := hdk
          dsimp only at b01 b02 b11 b12 b21 b22
          obtain ⟨wd, hwd⟩ : ∃ X, X = wr.alloc (.cells #[.int .i64 dk, .int .i64 dw, .int .i64 dx, .int .i64 dv] 69) := ⟨_, rfl⟩
          have BD : Hid (Below wr.heap.size wr wd) := hwd ▸ below_alloc wr _
          have hxd : wd.heap[wr.heap.size]? = some (.cells #[.int .i64 dk, .int .i64 dw, .int .i64 dx, .int .i64 dv] 69 (0, 0)) := by rw [hwd]; exact heap_alloc_new wr _
          obtain ⟨kd, hkd⟩ : ∃ k, k = wr.heap.size := ⟨_, rfl⟩
          rw [← hkd] at hxd
          have x0 : wd.cell? ⟨kd, 0, none⟩ = some (.int .i64 dk) := by rw [cell_of_row wd kd _ _ 69 (0, 0) hxd]; rfl
          have x1 : wd.cell? ⟨kd, 1, none⟩ = some (.int .i64 dw) := by rw [cell_of_row wd kd _ _ 69 (0, 0) hxd]; rfl
          have x2 : wd.cell? ⟨kd, 2, none⟩ = some (.int .i64 dx) := by rw [cell_of_row wd kd _ _ 69 (0, 0) hxd]; rfl
          have x3 : wd.cell? ⟨kd, 3, none⟩ = some (.int .i64 dv) := by rw [cell_of_row wd kd _ _ 69 (0, 0) hxd]; rfl
          clear hxd hcells hB
          go_upto_region 12 with fail
          rw [← hwd, ← hkd]
          clear d0 d1 d2 d3 hwd hkd
          go_cut [64] (fun v64 W => ∃ bb : Bool, v64 = .bool bb ∧ (bb = false → 0 < all.length) ∧ Hid (W = wd))
          case first =>
            have JP := hide (pick_any dk 3 wd b01 b02 (by omega) (by omega))
            generalize pk dk 3 = kk at *
            clear x1 x2 x3
            go_wp2_with fail
            refine JP.out.mono ?_
            rintro e w' ⟨rfl, rfl⟩
            clear JP
            by_cases hp : 0 < kk
            · have t5 : (kk : Int) > 0 := by omega
              go_wp2_with fail
              go_meet
              exact ⟨true, rfl, fun e => (by cases e), rfl⟩
            · have t5 : ¬ (kk : Int) > 0 := by omega
              by_cases h0 : all.length = 0
              · have t6 : ((all.length : Int) == 0) = true := by rw [beq_iff_eq]; omega
                clear h0
                go_wp2_with fail
                go_meet
                exact ⟨true, rfl, fun e => (by cases e), rfl⟩
              · have t6 : ((all.length : Int) == 0) = false := by rw [beq_eq_false_iff_ne]; omega
                have HP0 : Hid (0 < all.length) := by unfold Hid; omega
                clear h0
                go_wp2_with fail
                go_meet
                exact ⟨false, rfl, fun _ => HP0.out, rfl⟩
          obtain ⟨bb, rfl, hbb, HW2⟩ := hcut
          obtain rfl : wd = wc := HW2.out.symm
          clear HW2 x0
          cases bb with
          | true =>
            clear hbb x1
            have JPt := hide (part_any dx dv wd b21 b22)
            have hk4 : pk dx 4 < 4 := pk_lt dx (by omega)
            generalize pk dx 4 = kk at *
            go_wp2_with fail
            refine JPt.out.mono ?_
            rintro e w2 ⟨vp, rfl, ho2, hb2⟩
            obtain ⟨ap, np, cp, rfl⟩ := own_slice ho2
            obtain ⟨w4', hw4⟩ : ∃ X, X = w2.alloc (.cells #[.int .i64 ((kk : Int) + 1), .slice ap np cp] 32) := ⟨_, rfl⟩
            have JS : Hid (Calls Tryz.prog 24 #[.pointer (some ⟨gw, 0, none⟩), .slice (some ⟨w2.heap.size, 0, none⟩) 1 1] w4' fun e w' => Spawned w gw i (.slice a6 all.length c6) (.slice a7 onl.length c7) all onl e w') := by
              obtain ⟨own, gs, fr, C, h⟩ := HS.out
              exact h.spawn (by omega) (below_on BD.out hb2) kk hk4 dv ap np cp (own_lower ho2 BD.out.size) hw4
            clear ho2 hb2 JPt HS BD
            go_wp2_with fail
            rw [← hw4]
            refine JS.out.mono ?_
            rintro e w4 (⟨hc, p, rfl, hp, HX⟩ | ⟨hc, rfl, HX⟩)
            · obtain ⟨pa, pb⟩ := p
              have t7 : (cntB onl : Int) < 200 := by omega
              have t8 : IntKind.i64.wrap ((cntB onl : Int) + 1) = (cntB onl : Int) + 1 := by rw [IntKind.wrap_i64]; omega
              obtain ⟨w5, hw5⟩ : ∃ X, X = w4.alloc (.cells #[.int .i64 (pa : Int), .int .i64 (pb : Int)] 29) := ⟨_, rfl⟩
              have X5 : Hid (w5.heap[w4.heap.size]? = some (.cells #[.int .i64 (pa : Int), .int .i64 (pb : Int)] 29 (0, 0))) := by
                rw [hw5]
                exact heap_alloc_new w4 _
              have HX5 : Hid (∃ own gs fr C, Sx w gw (i + 1) w5 own (.slice a6 all.length c6) (.slice a7 onl.length c7) gs fr C all onl (all ++ [(pa, pb)]) (onl ++ [true])) := by
                obtain ⟨own, gs, fr, C, hX⟩ := HX.out
                exact ⟨_, gs, fr, C, hX.later (hw5 ▸ below_alloc w4 _)⟩
              obtain ⟨kx, hkx⟩ : ∃ k, k = w4.heap.size := ⟨_, rfl⟩
              rw [← hkx] at X5
              have HPN := hide hp
              clear HX JS hw4 hp hc
              dsimp only
              go_upto_block 2 with fail
              rw [← hw5, ← hkx]
              clear hw5 hkx
              go_wp2_with fail
              go_loopw [13] (fun v13 W => ∃ j : Nat, j ≤ all.length ∧ v13 = .int .i64 (j : Int) ∧ Hid (∃ own gs fr C, Sx w gw (i + 1) W own (.slice a6 all.length c6) (.slice a7 onl.length c7) gs fr C all onl (all ++ [(pa, pb)]) (onl ++ [true])) ∧ Hid (W.heap[kx]? = some (.cells #[.int .i64 (pa : Int), .int .i64 (pb : Int)] 29 (0, 0)))) (fun v13 _ => all.length - (intOf v13).toNat)
              case atStart => exact ⟨0, Nat.zero_le _, rfl, HX5, X5⟩
              case round =>
                obtain ⟨j, hjl, rfl, HJ, XJ⟩ := hrel
                clear HX5 X5
                obtain ⟨z1, z2⟩ := kx_cells XJ.out (Below.refl _ wr)
                by_cases hj : j < all.length
                · have tj : (j : Int) < (all.length : Int) := by omega
                  have tj0 : (0 : Int) ≤ (j : Int) := by omega
                  obtain ⟨own, gs, fr, C, h⟩ := HJ.out
                  obtain ⟨g6, c', e6, -, -⟩ := own_form h.2.2.1 (by omega)
                  simp only [Value.slice.injEq] at e6
                  obtain ⟨rfl, -, rfl⟩ := e6
                  obtain ⟨y1, y2⟩ := i_own_ent h.2.2.1 j hj
                  have hne : all[j] ≠ (pa, pb) := fun e => HPN.out (e ▸ List.getElem_mem hj)
                  have HN : Hid (∀ n, ∃ own gs fr C, Sx w gw (i + 1) (wr.drewN n) own (.slice (some ⟨g6, 0, none⟩) all.length c6) (.slice a7 onl.length c7) gs fr C all onl (all ++ [(pa, pb)]) (onl ++ [true])) := fun n => ⟨_, gs, fr, C, h.later (below_drawn wr n)⟩
                  generalize all[j] = q at *
                  obtain ⟨qa, qb⟩ := q
                  have HXN : Hid (∀ n, (wr.drewN n).heap[kx]? = some (.cells #[.int .i64 (pa : Int), .int .i64 (pb : Int)] 29 (0, 0))) := fun n => ((below_drawn wr n).block kx (lt_of_block XJ.out)).trans XJ.out
                  have hne2 : ¬ (qa = pa ∧ qb = pb) := fun e => hne (Prod.ext e.1 e.2)
                  dsimp only at y1 y2
                  clear h HJ XJ hne
                  by_cases hqa : qa = pa
                  · have hqb : ¬ qb = pb := fun h => hne2 ⟨hqa, h⟩
                    subst hqa
                    clear hne2
                    go_wp2_with fail
                    go_quiet (fail)
                    go_wp2_with fail
                    go_roundw
                    case rel => exact ⟨j + 1, by omega, by go_num, HN.out _, HXN.out _⟩
                    case measure => simp [intOf]; omega
                  · clear hne2
                    go_wp2_with fail
                    go_quiet (fail)
                    go_wp2_with fail
                    go_roundw
                    case rel => exact ⟨j + 1, by omega, by go_num, HN.out _, HXN.out _⟩
                    case measure => simp [intOf]; omega
                · obtain rfl : j = all.length := by omega
                  have tj : ¬ (all.length : Int) < (all.length : Int) := by omega
                  obtain ⟨own, gs, fr, C, h⟩ := HJ.out
                  have hL := h.later (below_alloc wr (.cells #[.int .i64 (pa : Int), .int .i64 (pb : Int)] 29))
                  have HO6 := hide hL.2.2.1
                  have HP6 : Hid (∀ (v9 : Value) (w9 : World), w9.ownsRow w.heap.size 29 2 v9 (all.length + 1) (ec all ++ [.int .i64 (pa : Int), .int .i64 (pb : Int)]) → (wr.alloc (.cells #[.int .i64 (pa : Int), .int .i64 (pb : Int)] 29)).grownBy w9 (Value.slice a6 all.length c6).ownBlock → (v9.ownBlock = (Value.slice a6 all.length c6).ownBlock ∨ v9.ownBlock = some (wr.heap.size + 1)) → ∃ own gs fr C, Sx w gw (i + 1) w9 own v9 (.slice a7 onl.length c7) gs fr C (all ++ [(pa, pb)]) onl (all ++ [(pa, pb)]) (onl ++ [true])) := fun v9 w9 k1 k2 k3 => ⟨_, gs, fr, C, hL.push6 k1 k2 (by simpa using k3)⟩
                  have HZ6 : Hid (w.heap.size ≤ wr.heap.size + 1) := by
                    have := hL.2.2.2.2.2.2.1.size
                    unfold Hid
                    simpa using this
                  clear h hL HJ XJ
                  go_wp2_with (at_builtin; refine wpList_append_own_at _ rfl _ _ 39 rfl w.heap.size 29 i29 (.agg #[.int .i64 0, .int .i64 0]) 2 16 Tryz.underlying39 hi29 hy0 hy1 hy2 rfl (by decide) _ all.length (ec all) rfl HO6.out ⟨wr.heap.size, 0, none⟩ 1 1 [.int .i64 (pa : Int), .int .i64 (pb : Int)] rfl rfl ?n1 ?n2 ?n3 ?n4 ?n5 ?_)
                  case n2 => first | exact ⟨rfl, rfl⟩ | (intro u hu; simp at hu; rcases hu with rfl | rfl <;> rfl)
                  case n3 => unfold maxLen; omega
                  case n4 => omega
                  case n5 => exact HZ6.out
                  intro v9 w9 ho9 hg9 _ ha9
                  have H9 := hide (HP6.out v9 w9 ho9 hg9 ha9)
                  obtain ⟨a9, c9, rfl⟩ := own_len ho9
                  clear ho9 hg9 ha9 HP6 HO6 HZ6 z1 z2
                  obtain ⟨own2, gs2, fr2, C2, h9⟩ := H9.out
                  have hL2 := h9.later (below_alloc w9 (.cells #[.bool true] 4))
                  have HO7 := hide hL2.2.2.2.1
                  have HP7 : Hid (∀ (v10 : Value) (w10 : World), w10.ownsRow w.heap.size 4 1 v10 (onl.length + 1) (bz onl ++ [.bool true]) → (w9.alloc (.cells #[.bool true] 4)).grownBy w10 (Value.slice a7 onl.length c7).ownBlock → (v10.ownBlock = (Value.slice a7 onl.length c7).ownBlock ∨ v10.ownBlock = some (w9.heap.size + 1)) → ∃ own gs fr C, Sx w gw (i + 1) w10 own (.slice a9 (all.length + 1) c9) v10 gs fr C (all ++ [(pa, pb)]) (onl ++ [true]) (all ++ [(pa, pb)]) (onl ++ [true])) := fun v10 w10 k1 k2 k3 => ⟨_, gs2, fr2, C2, hL2.push7 k1 k2 (by simpa using k3)⟩
                  have HZ7 : Hid (w.heap.size ≤ (w9.alloc (.cells #[.bool true] 4)).heap.size) := hL2.2.2.2.2.2.2.1.size
                  have hol2 : onl.length ≤ 300 := by have := HOL.out; omega
                  clear h9 hL2 H9
                  go_wp2_with (at_builtin; refine wpList_append_own_at _ rfl _ _ 83 rfl w.heap.size 4 i4 (.bool false) 1 1 Tryz.underlying83 hi4 hx0 hx1 hx2 rfl (by decide) _ onl.length (bz onl) rfl HO7.out ⟨w9.heap.size, 0, none⟩ 1 1 [.bool true] rfl rfl ?f1 ?f2 ?f3 ?f4 ?f5 ?_)
                  case f1 =>
                    intro j u hj
                    match j, hj with
                    | 0, hj => simp at hj; subst hj; simp [Addr.add]
                  case f2 =>
                    intro u hu
                    simp at hu
                    subst hu
                    rfl
                  case f3 => unfold maxLen; omega
                  case f4 => omega
                  case f5 => exact HZ7.out
                  intro v10 w10 ho10 hg10 _ ha10
                  have H10 := hide (HP7.out v10 w10 ho10 hg10 ha10)
                  obtain ⟨a10, c10, rfl⟩ := own_len ho10
                  clear ho10 hg10 ha10 HP7 HO7 HZ7
                  have HL6 : Hid ((all ++ [(pa, pb)]).length = all.length + 1) := by unfold Hid; simp
                  have HL7 : Hid ((onl ++ [true]).length = onl.length + 1) := by unfold Hid; simp
                  go_wp2_with fail
                  go_roundw
                  case rel => exact ⟨i + 1, all ++ [(pa, pb)], onl ++ [true], a9, c9, a10, c10, by omega, by omega, by go_num, by rw [HL6.out], by rw [HL7.out], by rw [cnt_push]; rfl, by rw [HL6.out, HL7.out]; exact H10⟩
                  case measure => simp [intOf]; omega
            · have t7 : ¬ (cntB onl : Int) < 200 := by omega
              obtain ⟨own, gs, fr, C, hX⟩ := HX.out
              have HXL : Hid (∃ own gs fr C, Sx w gw (i + 1) (w4.alloc (.cells #[.int .i64 0, .int .i64 0] 29)) own (.slice a6 all.length c6) (.slice a7 onl.length c7) gs fr C all onl all onl) := ⟨_, gs, fr, C, hX.later (below_alloc w4 _)⟩
              clear hX HX JS hw4 hc
              go_wp2_with fail
              go_roundw
              case rel => exact ⟨i + 1, all, onl, a6, c6, a7, c7, by omega, by omega, by go_num, rfl, rfl, rfl, HXL⟩
              case measure => simp [intOf]; omega
          | false =>
            have hpos := hbb rfl
            have JP := hide (pick_any dw all.length wd b11 b12 hpos (by omega))
            have hkl : pk dw all.length < all.length := pk_lt dw hpos
            generalize pk dw all.length = k at *
            have k2 : k < onl.length := by have := HOL.out; omega
            have tk : (k : Int) < (all.length : Int) := by omega
            have tk2 : (k : Int) < (onl.length : Int) := by omega
            have tk0 : (0 : Int) ≤ (k : Int) := by omega
            obtain ⟨own, gs, fr, C, h⟩ := HS.out
            have hD := h.later BD.out
            obtain ⟨g6, c', e6, -, -⟩ := own_form h.2.2.1 (by omega)
            simp only [Value.slice.injEq] at e6
            obtain ⟨rfl, -, rfl⟩ := e6
            obtain ⟨g7, c', e7, -, -⟩ := own_form h.2.2.2.1 (by omega)
            simp only [Value.slice.injEq] at e7
            obtain ⟨rfl, -, rfl⟩ := e7
            obtain ⟨y1, y2⟩ := i_own_ent hD.2.2.1 k hkl
            have JD := hide (hD.despawn (by omega) k hkl k2)
            have HLV : Hid (∀ lv, onl[k] = lv → (lv = true → cntB (onl.set k false) + 1 = cntB onl) ∧ (lv = false → onl.set k false = onl)) := fun lv e => ⟨fun e2 => cnt_set onl k k2 (e.trans e2), fun e2 => by
              refine List.ext_getElem (by simp) (fun j j1 j2 => ?_)
              by_cases c : k = j
              · subst c
                rw [List.getElem_set_self, e, e2]
              · rw [List.getElem_set_ne c]⟩
            obtain ⟨lv, hlv⟩ : ∃ lv, onl[k] = lv := ⟨_, rfl⟩
            have HL2 := hide (HLV.out lv hlv)
            have HLK : Hid ((bz onl)[k]? = some (.bool lv)) := by unfold Hid; rw [bz_at onl k k2, hlv]
            rw [hlv] at JD
            clear HLV hlv h hD HS BD hbb x2 x3 hpos
            generalize all[k] = p at *
            obtain ⟨pa, pb⟩ := p
            dsimp only at y1 y2 JD
            go_wp2_with fail
            refine JP.out.mono ?_
            rintro e wd' ⟨rfl, rfl⟩
            clear JP
            go_wp2_with fail
            refine JD.out.mono ?_
            rintro e w5 ⟨rfl, HX⟩
            obtain ⟨own, gs, fr, C, hX⟩ := HX.out
            have z7 : w5.cell? ⟨g7, k, none⟩ = some (.bool lv) := by rw [hX.2.2.2.1.cellAt k (by omega)]; exact HLK.out
            have zf := hX.2.2.2.1.frozenAt k
            have HSET := hide (hX.set7 k false)
            have HXX := hide hX
            clear hX HX JD x1 y1 y2 HLK
            cases lv with
            | true =>
              have hcs := HL2.out.1 rfl
              have tn : IntKind.i64.wrap ((cntB onl : Int) - 1) = ((cntB (onl.set k false) : Nat) : Int) := by rw [IntKind.wrap_i64]; omega
              have HCS := hide hcs
              have HLS : Hid ((onl.set k false).length = onl.length) := by unfold Hid; simp
              simp only [if_true]
              clear hcs HL2 HXX
              go_wp2_with fail
              go_roundw
              case rel => exact ⟨i + 1, all, onl.set k false, some ⟨g6, 0, none⟩, c6, some ⟨g7, 0, none⟩, c7, by omega, by omega, by go_num, rfl, by rw [HLS.out], by go_num, by rw [HLS.out]; exact ⟨_, gs, fr, C, HSET.out⟩⟩
              case measure => simp [intOf]; omega
            | false =>
              have hsame := HL2.out.2 rfl
              have HXE : Hid (∃ own gs fr C, Sx w gw (i + 1) w5 own (.slice (some ⟨g6, 0, none⟩) all.length c6) (.slice (some ⟨g7, 0, none⟩) onl.length c7) gs fr C all onl all onl) := by
                have := HXX.out
                rw [hsame] at this
                exact ⟨own, gs, fr, C, this⟩
              simp only [Bool.false_eq_true, if_false]
              clear hsame HL2 HXX HSET
              go_wp2_with fail
              go_roundw
              case rel => exact ⟨i + 1, all, onl, some ⟨g6, 0, none⟩, c6, some ⟨g7, 0, none⟩, c7, by omega, by omega, by go_num, rfl, rfl, rfl, HXE⟩
              case measure => simp [intOf]; omega
        · have t2 : ¬ (i : Int) < 300 := by omega
          go_wp2_with fail
          go_meet
          exact ⟨i, all, onl, a6, c6, a7, c7, by omega, rfl, rfl, rfl, HS⟩
      · have t1 : ¬ (i : Int) < (ds.length : Int) := by omega
        go_wp2_with fail
        go_meet
        exact ⟨i, all, onl, a6, c6, a7, c7, by omega, rfl, rfl, rfl, HS⟩
  obtain ⟨t, all, onl, a6, c6, a7, c7, ht, rfl, rfl, rfl, HS⟩ := hcut
  clear HA HF H0
  obtain ⟨hcap6, hcap7, hal, hol⟩ : (all.length ≤ c6 ∧ c6 ≤ 9223372036854775807) ∧ (onl.length ≤ c7 ∧ c7 ≤ 9223372036854775807) ∧ all.length ≤ 300 ∧ onl.length = all.length := by
    obtain ⟨own, gs, fr, C, h⟩ := HS.out
    exact ⟨own_cap h.2.2.1, own_cap h.2.2.2.1, by have := h.2.1.2.1; omega, h.2.1.1.symm⟩
  have HOL := hide hol
  clear hol
  go_wp2_with fail
  go_loopw [16] (fun v16 W => ∃ k : Nat, k ≤ all.length ∧ v16 = .int .i64 (k : Int) ∧ Hid (∃ own gs fr C, Sx w gw t W own (.slice a6 all.length c6) (.slice a7 onl.length c7) gs fr C all onl all onl)) (fun v16 _ => all.length - (intOf v16).toNat)
  case atStart => exact ⟨0, Nat.zero_le _, rfl, HS⟩
  case round =>
    obtain ⟨k, hkl, rfl, HK⟩ := hrel
    clear HS
    by_cases hlt : k < all.length
    · have t1 : (k : Int) < (all.length : Int) := by omega
      have k2 : k < onl.length := by have := HOL.out; omega
      have t2 : (k : Int) < (onl.length : Int) := by omega
      have t0 : (0 : Int) ≤ (k : Int) := by omega
      obtain ⟨own, gs, fr, C, h⟩ := HK.out
      obtain ⟨g6, c', e6, -, -⟩ := own_form h.2.2.1 (by omega)
      simp only [Value.slice.injEq] at e6
      obtain ⟨rfl, -, rfl⟩ := e6
      obtain ⟨g7, c', e7, -, -⟩ := own_form h.2.2.2.1 (by omega)
      simp only [Value.slice.injEq] at e7
      obtain ⟨rfl, -, rfl⟩ := e7
      have HC : Hid (∀ W', Below wr.heap.size wr W' → W'.cell? ⟨g6, k * 2, none⟩ = some (.int .i64 (all[k].1 : Int)) ∧ W'.cell? ⟨g6, k * 2 + 1, none⟩ = some (.int .i64 (all[k].2 : Int)) ∧ W'.cell? ⟨g7, k, none⟩ = some (.bool onl[k])) := fun W' hW => by
        obtain ⟨x1, x2⟩ := i_own_ent (own_later h.2.2.1 hW) k hlt
        refine ⟨x1, x2, ?_⟩
        rw [(own_later h.2.2.2.1 hW).cellAt k (by omega), bz_at onl k k2]
      have HQ := hide (fun W' hW => h.asks (W' := W') hW ht k hlt k2)
      have HN : Hid (∀ W', Below wr.heap.size wr W' → ∃ own gs fr C, Sx w gw t W' own (.slice (some ⟨g6, 0, none⟩) all.length c6) (.slice (some ⟨g7, 0, none⟩) onl.length c7) gs fr C all onl all onl) := fun W' hW => ⟨_, _, _, _, h.later hW⟩
      clear h HK
      generalize all[k] = p at *
      generalize onl[k] = lv at *
      obtain ⟨pi, pg⟩ := p
      generalize (pi : Int) = pI at *
      generalize (pg : Int) = pG at *
      cases lv with
      | true =>
        simp only [if_true] at HQ
        obtain ⟨c0, c1, c2⟩ := HC.out wr (Below.refl _ wr)
        have J := hide (HQ.out wr (Below.refl _ wr)).1
        go_wp2_with fail
        refine J.out.mono ?_
        rintro e x1 ⟨rfl, hb1⟩
        have B1 := hide hb1
        clear hb1 J
        clear c0 c1 c2
        obtain ⟨c0, c1, c2⟩ := HC.out x1 B1.out
        have J := hide (HQ.out x1 B1.out).2.1
        go_wp2_with fail
        refine J.out.mono ?_
        rintro e x2 ⟨⟨ex, ey, ea, en, ec', rfl⟩, hb2⟩
        have B2 : Hid (Below wr.heap.size wr (x2.alloc (.cells #[.int .i64 ex, .int .i64 ey, .slice ea en ec'] 87))) := below_on (below_on B1.out hb2) (below_alloc _ _)
        clear hb2 J
        clear c0 c1 c2
        obtain ⟨c0, c1, c2⟩ := HC.out (x2.alloc (.cells #[.int .i64 ex, .int .i64 ey, .slice ea en ec'] 87)) B2.out
        have J := hide (HQ.out _ B2.out).2.2.1
        go_wp2_with fail
        refine J.out.mono ?_
        rintro e x3 ⟨rfl, hb3⟩
        have B3 : Hid (Below wr.heap.size wr (x3.alloc (.cells #[.int .i64 0, .slice none 0 0] 32))) := below_on (below_on B2.out hb3) (below_alloc _ _)
        clear hb3 J
        clear c0 c1 c2
        obtain ⟨c0, c1, c2⟩ := HC.out (x3.alloc (.cells #[.int .i64 0, .slice none 0 0] 32)) B3.out
        have J := hide (HQ.out _ B3.out).2.2.2.1
        go_wp2_with fail
        refine J.out.mono ?_
        rintro e x4 ⟨rfl, hb4⟩
        have B4 : Hid (Below wr.heap.size wr x4) := below_on B3.out hb4
        clear hb4 J
        clear c0 c1 c2
        obtain ⟨c0, c1, c2⟩ := HC.out x4 B4.out
        have J := hide (HQ.out _ B4.out).2.2.2.2.1
        go_wp2_with fail
        refine J.out.mono ?_
        rintro e x5 ⟨rfl, hb5⟩
        have B5 : Hid (Below wr.heap.size wr x5) := below_on B4.out hb5
        clear hb5 J
        clear c0 c1 c2
        obtain ⟨c0, c1, c2⟩ := HC.out x5 B5.out
        have J := hide (HQ.out _ B5.out).2.2.2.2.2
        go_wp2_with fail
        refine J.out.mono ?_
        rintro e x6 ⟨rfl, hb6⟩
        have B6 : Hid (Below wr.heap.size wr x6) := below_on B5.out hb6
        clear hb6 J
        clear c0 c1 c2
        obtain ⟨c0, c1, c2⟩ := HC.out x6 B6.out
        have HN6 := hide (HN.out x6 B6.out)
        clear HQ HC HN B1 B2 B3 B4 B5
        go_wp2_with fail
        go_roundw
        case rel => exact ⟨k + 1, by omega, by go_num, HN6.out⟩
        case measure => simp [intOf]; omega
      | false =>
        simp only [Bool.false_eq_true, if_false] at HQ
        obtain ⟨c0, c1, c2⟩ := HC.out wr (Below.refl _ wr)
        have J := hide (HQ.out wr (Below.refl _ wr)).1
        go_wp2_with fail
        refine J.out.mono ?_
        rintro e x1 ⟨rfl, hb1⟩
        have B1 := hide hb1
        clear hb1 J
        clear c0 c1 c2
        obtain ⟨c0, c1, c2⟩ := HC.out x1 B1.out
        have J := hide (HQ.out x1 B1.out).2.1
        go_wp2_with fail
        refine J.out.mono ?_
        rintro e x2 ⟨⟨ex, ey, ea, en, ec', rfl⟩, hb2⟩
        have B2 : Hid (Below wr.heap.size wr (x2.alloc (.cells #[.int .i64 ex, .int .i64 ey, .slice ea en ec'] 87))) := below_on (below_on B1.out hb2) (below_alloc _ _)
        clear hb2 J
        clear c0 c1 c2
        obtain ⟨c0, c1, c2⟩ := HC.out (x2.alloc (.cells #[.int .i64 ex, .int .i64 ey, .slice ea en ec'] 87)) B2.out
        have J := hide (HQ.out _ B2.out).2.2.1
        go_wp2_with fail
        refine J.out.mono ?_
        rintro e x3 ⟨rfl, hb3⟩
        have B3 : Hid (Below wr.heap.size wr (x3.alloc (.cells #[.int .i64 0, .slice none 0 0] 32))) := below_on (below_on B2.out hb3) (below_alloc _ _)
        clear hb3 J
        clear c0 c1 c2
        obtain ⟨c0, c1, c2⟩ := HC.out (x3.alloc (.cells #[.int .i64 0, .slice none 0 0] 32)) B3.out
        have J := hide (HQ.out _ B3.out).2.2.2.1
        go_wp2_with fail
        refine J.out.mono ?_
        rintro e x4 ⟨rfl, hb4⟩
        have B4 : Hid (Below wr.heap.size wr x4) := below_on B3.out hb4
        clear hb4 J
        clear c0 c1 c2
        obtain ⟨c0, c1, c2⟩ := HC.out x4 B4.out
        have J := hide (HQ.out _ B4.out).2.2.2.2.1
        go_wp2_with fail
        refine J.out.mono ?_
        rintro e x5 ⟨rfl, hb5⟩
        have B5 : Hid (Below wr.heap.size wr x5) := below_on B4.out hb5
        clear hb5 J
        clear c0 c1 c2
        obtain ⟨c0, c1, c2⟩ := HC.out x5 B5.out
        have J := hide (HQ.out _ B5.out).2.2.2.2.2
        go_wp2_with fail
        refine J.out.mono ?_
        rintro e x6 ⟨rfl, hb6⟩
        have B6 : Hid (Below wr.heap.size wr x6) := below_on B5.out hb6
        clear hb6 J
        clear c0 c1 c2
        obtain ⟨c0, c1, c2⟩ := HC.out x6 B6.out
        have HN6 := hide (HN.out x6 B6.out)
        clear HQ HC HN B1 B2 B3 B4 B5
        go_wp2_with fail
        go_roundw
        case rel => exact ⟨k + 1, by omega, by go_num, HN6.out⟩
        case measure => simp [intOf]; omega
    · obtain rfl : k = all.length := by omega
      have t1 : ¬ (all.length : Int) < (all.length : Int) := by omega
      obtain ⟨own, gs, fr, C, h⟩ := HK.out
      have J := hide (h.1.count h.2.1)
      have HE := hide h.2.2.2.2.2.2.1
      clear h HK
      go_wp2_with fail
      refine J.out.mono ?_
      rintro e w9 ⟨⟨a9, c9, rfl⟩, hb9⟩
      have HB9 := hide (below_on HE.out hb9)
      clear hb9 J
      generalize cntB onl = n at *
      go_wp2_with fail
      go_ret
      exact ⟨rfl, HB9.out⟩
end Go.Proofs.YtafmiolehlagkaaGreat
