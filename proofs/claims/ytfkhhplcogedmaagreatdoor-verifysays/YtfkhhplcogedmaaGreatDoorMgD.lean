import Derived.Test.YtfkhhplcogedmaaGreatDoorMgC
import Derived.Deep.LoopGhost
import Derived.Test.YtfkhhplcogedmaaGreatDoorMgA
/-
  Verify: onward, behind.
-/
namespace Go.Proofs.YtfkhhplcogedmaaGreatDoor
open Go.RowKit
set_option maxRecDepth 100000
theorem infoInt : (Tryz.prog.info? 3).map (fun i => (i.zero, i.size, i.bytes)) = some (some (.int .i64 0), 1, 8) := by kernel_rfl
/-- One number is put behind numbers. -/
theorem append1 {w : World} {ops : Array Oper} {rest : List Oper} {o : Oper} {a : Act} {Q : Exit → Act → World → Prop} (hgd : o.guard = none) (s x : Operand)
    (ho : o.op = .call { callee := .builtin .append, args := #[s, x], argTypes := #[36, 36] })
    (base : Nat) (v : Value) (n : Nat) (xs : List Value) (hs : a.eval s = v) (hown : w.ownsRow base 3 1 v n xs) (ad : Addr) (c : Nat) (y : Int) (hx : a.eval x = .slice (some ad) 1 c) (hy : ∀ j u, [Value.int .i64 y][j]? = some u → w.cell? (ad.add j) = some u) (hb : n ≤ 1000000) (hbase : base ≤ w.heap.size)
    (h : ∀ v' w', w'.ownsRow base 3 1 v' (n + 1) (xs ++ [.int .i64 y]) → w.grownBy w' v.ownBlock → wpList Tryz.prog ops Q rest (a.put o.dst v') w') :
    wpList Tryz.prog ops Q (o :: rest) a w := by
  refine wpList_plain hgd fun K hK => ?_
  obtain ⟨i0, hi, hz0, hz1, hz2⟩ := info_parts infoInt
  obtain ⟨v', w', hr, h2, h3, -, -⟩ := run_append_own_at (P := Tryz.prog) w base 36 o.type 3 i0 (.int .i64 0) 1 8 Tryz.underlying36 hi hz0 hz1 hz2 rfl (by decide) v n xs hown ad 1 c [.int .i64 y] rfl hy (fun u hu => by rw [List.mem_singleton.1 hu]; rfl) (by unfold maxLen; omega) (by omega) hbase
  unfold Oper.wp execOp
  simp only [ho, resolve, invoke, builtin, Sem.run_bind, Sem.run_pure, Result.andThen_ok, List.map_toArray, List.map_cons, List.map_nil, hs, hx, hr]
  exact hK _ _ (h v' w' h2 h3)
theorem nextI_len (c : List Ins) (p : Nat) : (nextI c p).length ≤ 2 := by
  unfold nextI
  repeat' split
  all_goals simp
/-- Those of the first so many that are there. -/
def onwT (c : List Ins) (l : List Int) (i : Nat) : List Int := (l.take i).filter fun x : Int => decide (0 ≤ x ∧ x < (c.length : Int))
theorem onwT_add {c : List Ins} {l : List Int} {i : Nat} (h : i < l.length) : onwT c l (i + 1) = if thereI c l[i] then onwT c l i ++ [l[i]] else onwT c l i := by
  unfold onwT thereI
  rw [List.take_succ_eq_append_getElem h, List.filter_append]
  by_cases e : 0 ≤ l[i] ∧ l[i] < (c.length : Int)
  · simp [e]
  · simp [e]
theorem onwT_all (c : List Ins) (p : Nat) : zq (onwT c (nextI c p) (nextI c p).length) = (onwI c p).map fun y : Nat => Value.int .i64 (y : Int) := by
  unfold onwT onwI zq
  rw [List.take_length, List.map_map]
  apply List.map_congr_left
  intro x hx
  have := (List.mem_filter.1 hx).2
  rw [decide_eq_true_iff] at this
  show Value.int .i64 x = .int .i64 ((x.toNat : Nat) : Int)
  rw [Int.toNat_of_nonneg this.1]
theorem onwT_len (c : List Ins) (l : List Int) (i : Nat) : (onwT c l i).length ≤ l.length := by
  unfold onwT
  exact Nat.le_trans (List.length_filter_le _ _) (by rw [List.length_take]; omega)
set_option maxHeartbeats 4000000 in
theorem onward_any {Q : Nat → Prop} {w : World} {vc vf : Value} {c : List Ins} (h : Il Q w vc c) (hf : ∃ a n c, vf = .slice a n c) (p : Nat) (hp : p < c.length) : Calls Tryz.prog 78 #[.agg #[vc, vf], .int .i64 (p : Int)] w fun e w' => ∃ v, e = .returned v ∧ w'.ownsRow w.heap.size 3 1 v (onwI c p).length ((onwI c p).map fun y : Nat => Value.int .i64 (y : Int)) ∧ Below w.heap.size w w' := by
  have JN : Hid (∀ W, Below w.heap.size w W → Calls Tryz.prog 83 #[.agg #[vc, vf], .int .i64 (p : Int)] W fun e w' => ∃ v, e = .returned v ∧ w'.ownsRow W.heap.size 2 1 v (nextI c p).length (zq (nextI c p)) ∧ Below W.heap.size W w') := fun W hW => next_any (h.later hW) hf p hp
  have JT : Hid (∀ W a, Below w.heap.size w W → Calls Tryz.prog 82 #[.agg #[vc, vf], .int .i64 a] W fun e w' => e = .returned (.bool (thereI c a)) ∧ Below W.heap.size W w') := fun W a hW => isthere_any (h.later hW) hf a
  obtain ⟨ao, co, rfl, h1, h2⟩ := h.at
  obtain ⟨af, nf, cf, rfl⟩ := hf
  have HOA : Hid ((onwT c (nextI c p) (nextI c p).length).length = (onwI c p).length) := by
    have := congrArg List.length (onwT_all c p)
    rw [zq_len, List.length_map] at this
    exact this
  have HOE := hide (onwT_all c p)
  obtain ⟨L, hL⟩ : ∃ L, L = nextI c p := ⟨_, rfl⟩
  have hl2 : L.length ≤ 2 := by rw [hL]; exact nextI_len c p
  rw [← hL] at HOA HOE JN
  have HL2 := hide hl2
  obtain ⟨w0, hw0⟩ : ∃ X, X = w.alloc (.cells #[.slice ao c.length co, .slice af nf cf] 80) := ⟨_, rfl⟩
  have B0 : Hid (Below w.heap.size w w0) := by unfold Hid; rw [hw0]; exact below_alloc w _
  have HC : Hid (∀ W, Below w0.heap.size w0 W → W.cell? ⟨w.heap.size, 0, none⟩ = some (.slice ao c.length co) ∧ W.cell? ⟨w.heap.size, 1, none⟩ = some (.slice af nf cf)) := fun W hW => by
    have hb : w0.heap[w.heap.size]? = some (.cells #[.slice ao c.length co, .slice af nf cf] 80 (0, 0)) := by rw [hw0]; exact heap_alloc_new w _
    have hb2 := (hW.block _ (lt_of_block hb)).trans hb
    exact ⟨by rw [cell_of_row _ _ _ _ 80 (0, 0) hb2]; rfl, by rw [cell_of_row _ _ _ _ 80 (0, 0) hb2]; rfl⟩
  obtain ⟨gw, hgw⟩ : ∃ g, g = w.heap.size := ⟨_, rfl⟩
  clear h hL hl2 hp h1
  go_enter Tryz.func78, Tryz.ntmps78
  go_upto_region 2 with fail
  rw [← hw0, ← hgw]
  rw [← hgw] at HC
  obtain ⟨d0, d1⟩ := HC.out w0 (Below.refl _ _)
  clear hw0 hgw
  go_wp2_with fail
  refine (JN.out w0 B0.out).mono ?_
  rintro e w1 ⟨v1, rfl, r1, b1⟩
  obtain ⟨a1, c1, hv1⟩ := own_len r1
  obtain ⟨hc1, hc2⟩ := own_cap (hv1 ▸ r1)
  have H1 : Hid (∀ W, Below w1.heap.size w1 W → W.ownsRow w0.heap.size 2 1 (.slice a1 L.length c1) L.length (zq L)) := fun W hW => own_later (hv1 ▸ r1) hW
  have B1 := hide b1
  clear r1 b1 d0 d1
  subst hv1
  have Q0 : Hid (w1.ownsRow w1.heap.size 3 1 (.slice none 0 0) (onwT c L 0).length (zq (onwT c L 0)) ∧ Below w1.heap.size w1 w1) := ⟨by simp [onwT, zq, World.ownsRow], Below.refl _ _⟩
  obtain ⟨nl, hnl⟩ : ∃ n, n = L.length := ⟨_, rfl⟩
  have HNL := hide hnl
  rw [← hnl] at hc1 H1 ⊢
  clear hnl
  go_wp2_with fail
  go_loopw [5, 12] (fun v5 v12 W => ∃ i : Nat, i ≤ nl ∧ v12 = .int .i64 (i : Int) ∧ Hid (W.ownsRow w1.heap.size 3 1 v5 (onwT c L i).length (zq (onwT c L i)) ∧ Below w1.heap.size w1 W)) (fun _ v12 _ => nl - (intOf v12).toNat)
  case atStart => exact ⟨0, Nat.zero_le _, rfl, Q0.out⟩
  case round =>
    obtain ⟨i, hi, rfl, HI⟩ := hrel
    clear Q0
    obtain ⟨m, hm⟩ : ∃ m, m = (onwT c L i).length := ⟨_, rfl⟩
    have hm2 : m ≤ 2 := by have := onwT_len c L i; have := HL2.out; omega
    have h5 := HI.out.1
    rw [← hm] at h5
    obtain ⟨a5, c5, rfl⟩ := own_len h5
    have H5 : Hid (wr.ownsRow w1.heap.size 3 1 (.slice a5 m c5) m (zq (onwT c L i)) ∧ m = (onwT c L i).length) := ⟨h5, hm⟩
    have HM2 := hide hm2
    have BI := hide HI.out.2
    clear h5 hm hm2 HI
    by_cases hlt : i < nl
    · have t1 : (i : Int) < (nl : Int) := by omega
      have hil : i < L.length := by have := HNL.out; omega
      have r1 := H1.out wr BI.out
      obtain ⟨ga, ca, ea, -, -⟩ := own_form r1 (by omega)
      simp only [Value.slice.injEq, true_and] at ea
      obtain ⟨rfl, rfl⟩ := ea
      have d2 : wr.cell? ⟨ga, i, none⟩ = some (.int .i64 L[i]) := by
        rw [r1.cellAt i (by omega)]
        simp [zq, hil]
      have HT : Hid (onwT c L (i + 1) = if thereI c L[i] then onwT c L i ++ [L[i]] else onwT c L i) := onwT_add hil
      obtain ⟨x, hx⟩ : ∃ x, x = L[i] := ⟨_, rfl⟩
      rw [← hx] at d2 HT
      obtain ⟨d0, d1⟩ := HC.out wr (below_on B1.out BI.out)
      have J := hide (JT.out wr x (below_on B0.out (below_on B1.out BI.out)))
      clear r1 hx
      cases hb : thereI c x with
      | true =>
        rw [hb] at HT J
        go_wp2_with fail
        refine J.out.mono ?_
        rintro e w2 ⟨rfl, b2⟩
        have B2 := hide (below_on BI.out b2)
        have H2 := hide (own_later H5.out.1 b2)
        clear b2 d2 d0 d1 J
        go_wp2_with (at_builtin; refine append1 rfl _ _ rfl w1.heap.size (.slice a5 m c5) m (zq (onwT c L i)) rfl ?p1 ⟨w2.heap.size, 0, none⟩ 1 x rfl (lit64 w2 _ 3) ?p2 ?p3 ?_)
        case p1 => exact own_later H2.out (below_alloc w2 _)
        case p2 => have := HM2.out; omega
        case p3 => have := B2.out.size; simp; omega
        intro v9 w9 h9 hg9
        have HN : Hid (w9.ownsRow w1.heap.size 3 1 v9 (onwT c L (i + 1)).length (zq (onwT c L (i + 1))) ∧ Below w1.heap.size w1 w9) := by
          refine ⟨?_, ?_⟩
          · rw [HT.out, if_pos (by decide), List.length_append, ← H5.out.2]
            simpa [zq] using h9
          · have hb := below_on B2.out (below_alloc w2 (.cells #[.int .i64 x] 3))
            exact hb.grown hg9 hb.size (fun k e => (H5.out.1.lt k e).1)
        obtain ⟨a9, c9, rfl⟩ := own_len h9
        clear h9 hg9
        go_wp2_with fail
        go_roundw
        case rel => exact ⟨i + 1, by omega, rfl, HN.out⟩
        case measure => simp only [intOf]; omega
      | false =>
        rw [hb] at HT J
        go_wp2_with fail
        refine J.out.mono ?_
        rintro e w2 ⟨rfl, b2⟩
        have HN : Hid (w2.ownsRow w1.heap.size 3 1 (.slice a5 m c5) (onwT c L (i + 1)).length (zq (onwT c L (i + 1))) ∧ Below w1.heap.size w1 w2) := by
          refine ⟨?_, below_on BI.out b2⟩
          rw [HT.out, if_neg (by decide), ← H5.out.2]
          exact own_later H5.out.1 b2
        clear b2 d2 d0 d1 J
        go_wp2_with fail
        go_roundw
        case rel => exact ⟨i + 1, by omega, rfl, HN.out⟩
        case measure => simp only [intOf]; omega
    · have t1 : ¬ (i : Int) < (nl : Int) := by omega
      obtain rfl : i = nl := by omega
      have HF : Hid (wr.ownsRow w.heap.size 3 1 (.slice a5 m c5) (onwI c p).length ((onwI c p).map fun y : Nat => Value.int .i64 (y : Int)) ∧ Below w.heap.size w wr) := by
        refine ⟨?_, below_on B0.out (below_on B1.out BI.out)⟩
        have h1 := H5.out.1
        have h2 := H5.out.2
        rw [HNL.out] at h1 h2
        rw [HOE.out, h2, HOA.out] at h1
        rw [h2, HOA.out]
        exact own_lower h1 (by have := B0.out.size; have := B1.out.size; omega)
      clear H5
      go_wp2_with fail
      go_ret
      exact ⟨_, rfl, HF.out⟩
end Go.Proofs.YtfkhhplcogedmaaGreatDoor

/-
  Verify: numbers and lists of numbers that are read; rows that are owned.
-/
namespace Go.Proofs.YtfkhhplcogedmaaGreatDoor
open Go.RowKit
set_option maxRecDepth 100000
def nz (l : List Nat) : List Value := l.map fun y : Nat => Value.int .i64 (y : Int)
theorem nz_len (l : List Nat) : (nz l).length = l.length := by simp [nz]
theorem nz_at (l : List Nat) (i : Nat) (h : i < l.length) : (nz l)[i]? = some (.int .i64 (l[i] : Int)) := by simp [nz, h]
/-- Numbers that are read. -/
def Rn (W : World) (v : Value) (l : List Nat) : Prop := ∃ ao c, v = .slice ao l.length c ∧ l.length ≤ c ∧ c ≤ 9223372036854775807 ∧ (0 < l.length → ∃ g o, ao = some ⟨g, o, none⟩ ∧ ∀ i (h : i < l.length), W.cell? ⟨g, o + i, none⟩ = some (.int .i64 (l[i] : Int)))
theorem Rn.later {W W' : World} {v : Value} {l : List Nat} (h : Rn W v l) (hb : Below W.heap.size W W') : Rn W' v l := by
  obtain ⟨ao, c, h1, h2, h3, h4⟩ := h
  refine ⟨ao, c, h1, h2, h3, fun h0 => ?_⟩
  obtain ⟨g, o, rfl, h5⟩ := h4 h0
  exact ⟨g, o, rfl, fun i hi => (World.cell?_of_block (hb.block g (World.block_lt_of_cell? W _ (h5 i hi)))).trans (h5 i hi)⟩
/-- Lists that are read. -/
def Rr (W : World) (v : Value) (ls : List (List Nat)) : Prop := ∃ ao c, ∃ rs : List Value, v = .slice ao ls.length c ∧ ls.length ≤ c ∧ c ≤ 9223372036854775807 ∧ rs.length = ls.length ∧ (0 < ls.length → ∃ g o, ao = some ⟨g, o, none⟩ ∧ ∀ i (h : i < rs.length), W.cell? ⟨g, o + i, none⟩ = some rs[i]) ∧ ∀ i (h1 : i < rs.length) (h2 : i < ls.length), Rn W rs[i] ls[i]
theorem Rr.later {W W' : World} {v : Value} {ls : List (List Nat)} (h : Rr W v ls) (hb : Below W.heap.size W W') : Rr W' v ls := by
  obtain ⟨ao, c, rs, h1, h2, h3, h4, h5, h6⟩ := h
  refine ⟨ao, c, rs, h1, h2, h3, h4, fun h0 => ?_, fun i a b => (h6 i a b).later hb⟩
  obtain ⟨g, o, rfl, h7⟩ := h5 h0
  exact ⟨g, o, rfl, fun i hi => (World.cell?_of_block (hb.block g (World.block_lt_of_cell? W _ (h7 i hi)))).trans (h7 i hi)⟩
theorem Rr.nth {W : World} {ao : Option Addr} {n c : Nat} {ls : List (List Nat)} (h : Rr W (.slice ao n c) ls) {i : Nat} (hi : i < ls.length) : ∃ g o r, ao = some ⟨g, o, none⟩ ∧ W.cell? ⟨g, o + i, none⟩ = some r ∧ Rn W r ls[i] := by
  obtain ⟨ao', c', rs, e, h2, h3, h4, h5, h6⟩ := h
  simp only [Value.slice.injEq] at e
  obtain ⟨rfl, -, -⟩ := e
  obtain ⟨g, o, rfl, h7⟩ := h5 (by omega)
  exact ⟨g, o, rs[i]'(by omega), rfl, h7 i (by omega), h6 i (by omega) hi⟩
theorem infoBool : (Tryz.prog.info? 4).map (fun i => (i.zero, i.size, i.bytes)) = some (some (.bool false), 1, 1) := by kernel_rfl
theorem infoI2 : (Tryz.prog.info? 3).map (fun i => (i.zero, i.size, i.bytes)) = some (some (.int .i64 0), 1, 8) := by kernel_rfl
/-- Numbers that are read are put behind numbers. -/
theorem own_blk2 {w : World} {B e s n : Nat} {v : Value} {xs : List Value} (h : w.ownsRow B e s v n xs) {g : Nat} (hg : v.ownBlock = some g) : ∃ cur, w.heap[g]? = some (.cells cur e (0, 0)) := by
  rcases h.2 with ⟨rfl, _⟩ | ⟨g', cap, cur, rfl, hb, hg', -⟩
  · simp [Value.ownBlock] at hg
  · simp only [Value.ownBlock, Option.some.injEq] at hg
    subst hg
    exact ⟨cur, hg'⟩
theorem own_ap2 {w : World} {B e s n B' e' s' n' : Nat} {v v' : Value} {xs xs' : List Value} (h : w.ownsRow B e s v n xs) (h' : w.ownsRow B' e' s' v' n' xs') (hne : e ≠ e') : Ap v v' := fun g h1 h2 => by
  obtain ⟨c1, k1⟩ := own_blk2 h h1
  obtain ⟨c2, k2⟩ := own_blk2 h' h2
  rw [k1] at k2
  simp only [Option.some.injEq, Obj.cells.injEq] at k2
  exact hne k2.2.1
theorem own_cut2 {w : World} {B g c m k e : Nat} {xs : List Value} (h : w.ownsRow B e 1 (.slice (some ⟨g, 0, none⟩) m c) m xs) (hk : k ≤ m) : w.ownsRow B e 1 (.slice (some ⟨g, 0, none⟩) k c) k (xs.take k) := by
  have hlen := h.1
  rcases h.2 with ⟨h', _⟩ | ⟨gv', c', cur, h', hb, hg, h1, h2, h3, h4⟩
  · simp at h'
  · simp only [Value.slice.injEq, Option.some.injEq, Addr.mk.injEq, and_true, true_and] at h'
    obtain ⟨rfl, rfl⟩ := h'
    refine ⟨by rw [List.length_take]; omega, .inr ⟨g, c, cur, rfl, hb, hg, by omega, h2, h3, ?_⟩⟩
    rw [← h4, List.take_take]
    congr 1
    omega
theorem own_ge {w : World} {B e s n g c : Nat} {xs : List Value} (h : w.ownsRow B e s (.slice (some ⟨g, 0, none⟩) n c) n xs) : B ≤ g := by
  rcases h.2 with ⟨h', _⟩ | ⟨g', c', cur, h', hb, _⟩
  · simp at h'
  · simp only [Value.slice.injEq, Option.some.injEq, Addr.mk.injEq, and_true, true_and] at h'
    obtain ⟨rfl, rfl⟩ := h'
    exact hb
end Go.Proofs.YtfkhhplcogedmaaGreatDoor

/-
  A region that draws its order: a load may be taken first where only operations that wait for it write its cell.
  (As the library's own law on held regions, but the condition need not be shown behind those that wait for all that lean on it.)
-/
namespace Go.Proofs.YtfkhhplcogedmaaGreatDoor
section
variable {P : Program} {ops : Array Oper} {Q : Exit → Act → World → Prop} {md : Region.Mode} {J : Nat → Bool} {S : World → Prop}
/-- Whatever order is picked, and S, where it holds, holds behind every operation that is carried out, but for the late ones (not J). -/
def wpAnyJ (P : Program) (md : Region.Mode) (ops : Array Oper) (Q : Exit → Act → World → Prop) (J : Nat → Bool) (S : World → Prop) : Nat → Array Bool → Act → World → Prop
  | 0, listed, a, w => Region.ready md ops listed = [] ∧ Q .normal a w
  | fuel + 1, listed, a, w =>
    (Region.ready md ops listed = [] → Q .normal a w) ∧
    ∀ i ∈ Region.ready md ops listed, wpOp P ops Q i (fun a' w' => (J i = true → S w → S w') ∧ wpAnyJ P md ops Q J S fuel (listed.setIfInBounds i true) a' w') a w
theorem wpAny_of_late : ∀ (fuel : Nat) (listed : Array Bool) (a : Act) (w : World), wpAnyJ P md ops Q J S fuel listed a w → wpAny P md ops Q fuel listed a w
  | 0, _, _, _, h => h
  | fuel + 1, _, _, _, h => ⟨h.1, fun i hi => wpOp_mono (fun a' w' h' => wpAny_of_late fuel _ a' w' h'.2) (h.2 i hi)⟩
theorem wpAnyJ_first {i : Nat} {oi : Oper} {v : Value} (hi : ops[i]? = some oi) (hsel : ∀ (j : Nat) (o : Oper) cs b, ops[j]? = some o → o.op ≠ .select cs b)
    (hQ : ∀ c a w, Q (.panic c) (a.put oi.dst v) w → Q (.panic c) a w)
    (hJ : ∀ j oj, ops[j]? = some oj → (∀ e ∈ oj.after, Region.binds md e = true → e.on ≠ i) → J j = true) :
    ∀ (fuel : Nat) (listed : Array Bool) (a : Act) (w : World),
      (∀ j oj, ops[j]? = some oj → j ≠ i → listed.getD j true = false → (∀ e ∈ oj.after, Region.binds md e = true → e.on ≠ i) → oi.apart ops oj = true) →
      i ∈ Region.ready md ops listed → YieldsIf P ops S oi v a → S w →
      wpAnyJ P md ops Q J S fuel (listed.setIfInBounds i true) (a.put oi.dst v) w → wpAnyJ P md ops Q J S (fuel + 1) listed a w := by
  intro fuel
  induction fuel with
  | zero =>
    intro listed a w _ hr hy hS H
    refine ⟨fun h => (by rw [h] at hr; cases hr), fun j hj => ?_⟩
    by_cases hji : j = i
    · subst hji; exact hy.wpOp hi hS ⟨fun _ h => h, H⟩
    · have := ready_mono hj hji
      rw [H.1] at this
      cases this
  | succ fuel ih =>
    intro listed a w hfree hr hy hS H
    refine ⟨fun h => (by rw [h] at hr; cases hr), fun j hj => ?_⟩
    by_cases hji : j = i
    · subst hji; exact hy.wpOp hi hS ⟨fun _ h => h, H⟩
    · have h1 := H.2 j (ready_mono hj hji)
      obtain ⟨hjun, oj, hoj, hall⟩ := mem_ready.1 hj
      have hnot : ∀ e ∈ oj.after, Region.binds md e = true → e.on ≠ i := fun e he hb heq => by
        have h1 := hall e he hb
        have h0 := (mem_ready.1 hr).1
        rw [heq] at h1
        rcases Nat.lt_or_ge i listed.size with h' | h'
        · simp [h'] at h0 h1; rw [h0] at h1; cases h1
        · simp [Array.getElem?_eq_none h'] at h1
      have hjj := hJ j oj hoj hnot
      have h2 := wpOp_putIf hoj (hfree j oj hoj hji hjun hnot) (fun cs b => hsel i oi cs b hi) (fun cs b => hsel j oj cs b hoj) hQ hy h1
      have hfree' : ∀ k ok, ops[k]? = some ok → k ≠ i → (listed.setIfInBounds j true).getD k true = false →
          (∀ e ∈ ok.after, Region.binds md e = true → e.on ≠ i) → oi.apart ops ok = true := fun k ok hk hki hun hno => by
        refine hfree k ok hk hki ?_ hno
        by_cases hjk : j = k
        · subst hjk; exact hjun
        · rw [getD_set_ne true hjk] at hun; exact hun
      refine wpOp_mono (fun a' w' h3 => ⟨h3.2.1, ih (listed.setIfInBounds j true) a' w' hfree' (ready_mono hr (Ne.symm hji)) h3.1 (h3.2.1 hjj hS) ?_⟩) h2
      rw [Array.setIfInBounds_comm _ _ hji]
      exact h3.2.2
theorem wpAnyJ_firstW {i : Nat} {oi : Oper} {v : Value} (hi : ops[i]? = some oi) (hsel : ∀ (j : Nat) (o : Oper) cs b, ops[j]? = some o → o.op ≠ .select cs b)
    (hQ : ∀ c a w, Q (.panic c) (a.put oi.dst v) w → Q (.panic c) a w) :
    ∀ (fuel : Nat) (listed : Array Bool) (a : Act) (w : World),
      (∀ j oj, ops[j]? = some oj → j ≠ i → listed.getD j true = false → (∀ e ∈ oj.after, Region.binds md e = true → e.on ≠ i) → oi.apart ops oj = true) →
      i ∈ Region.ready md ops listed → YieldsIf P ops (fun _ => True) oi v a →
      wpAnyJ P md ops Q J S fuel (listed.setIfInBounds i true) (a.put oi.dst v) w → wpAnyJ P md ops Q J S (fuel + 1) listed a w := by
  intro fuel
  induction fuel with
  | zero =>
    intro listed a w _ hr hy H
    refine ⟨fun h => (by rw [h] at hr; cases hr), fun j hj => ?_⟩
    by_cases hji : j = i
    · subst hji; exact hy.wpOp hi trivial ⟨fun _ h => h, H⟩
    · have := ready_mono hj hji
      rw [H.1] at this
      cases this
  | succ fuel ih =>
    intro listed a w hfree hr hy H
    refine ⟨fun h => (by rw [h] at hr; cases hr), fun j hj => ?_⟩
    by_cases hji : j = i
    · subst hji; exact hy.wpOp hi trivial ⟨fun _ h => h, H⟩
    · have h1 := H.2 j (ready_mono hj hji)
      obtain ⟨hjun, oj, hoj, hall⟩ := mem_ready.1 hj
      have hnot : ∀ e ∈ oj.after, Region.binds md e = true → e.on ≠ i := fun e he hb heq => by
        have h1 := hall e he hb
        have h0 := (mem_ready.1 hr).1
        rw [heq] at h1
        rcases Nat.lt_or_ge i listed.size with h' | h'
        · simp [h'] at h0 h1; rw [h0] at h1; cases h1
        · simp [Array.getElem?_eq_none h'] at h1
      have h2 := wpOp_putIf hoj (hfree j oj hoj hji hjun hnot) (fun cs b => hsel i oi cs b hi) (fun cs b => hsel j oj cs b hoj) hQ hy h1
      have hfree' : ∀ k ok, ops[k]? = some ok → k ≠ i → (listed.setIfInBounds j true).getD k true = false →
          (∀ e ∈ ok.after, Region.binds md e = true → e.on ≠ i) → oi.apart ops ok = true := fun k ok hk hki hun hno => by
        refine hfree k ok hk hki ?_ hno
        by_cases hjk : j = k
        · subst hjk; exact hjun
        · rw [getD_set_ne true hjk] at hun; exact hun
      refine wpOp_mono (fun a' w' h3 => ⟨h3.2.1, ih (listed.setIfInBounds j true) a' w' hfree' (ready_mono hr (Ne.symm hji)) h3.1 ?_⟩) h2
      rw [Array.setIfInBounds_comm _ _ hji]
      exact h3.2.2
/-- Everybody who is late waits for i. -/
def lateB (md : Region.Mode) (ops : Array Oper) (J : Nat → Bool) (i : Nat) : Bool := (List.range ops.size).all fun j => J j || match ops[j]? with | some o => o.after.any fun e => Region.binds md e && e.on == i | none => true
theorem lateB_spec {i : Nat} (h : lateB md ops J i = true) : ∀ j oj, ops[j]? = some oj → (∀ e ∈ oj.after, Region.binds md e = true → e.on ≠ i) → J j = true := fun j oj hj hn => by
  unfold lateB at h
  have hlt : j < ops.size := (Array.getElem?_eq_some_iff.1 hj).1
  have := List.all_eq_true.1 h j (by simpa using hlt)
  rw [hj] at this
  simp only [Bool.or_eq_true] at this
  rcases this with h | h
  · exact h
  · obtain ⟨e, he, hb⟩ := Array.any_eq_true'.1 h
    simp only [Bool.and_eq_true, beq_iff_eq] at hb
    exact absurd hb.2 (hn e he hb.1)
theorem wpAnyJ_take {i : Nat} {oi : Oper} {v : Value} {fuel : Nat} {listed : Array Bool} {a : Act} {w : World} (hi : ops[i]? = some oi)
    (hs : Region.noSelect ops = true) (hf : Region.free md ops listed i = true) (hr : (Region.ready md ops listed).contains i = true) (hl : lateB md ops J i = true)
    (hQ : ∀ c a w, Q (.panic c) (a.put oi.dst v) w → Q (.panic c) a w) (hy : YieldsIf P ops S oi v a) (hS : S w)
    (h : wpAnyJ P md ops Q J S fuel (listed.setIfInBounds i true) (a.put oi.dst v) w) : wpAnyJ P md ops Q J S (fuel + 1) listed a w :=
  wpAnyJ_first hi (Region.noSelect_spec hs) hQ (lateB_spec hl) fuel listed a w (Region.free_spec hi hf) (by simpa using hr) hy hS h
theorem wpAnyJ_takeW {i : Nat} {oi : Oper} {v : Value} {fuel : Nat} {listed : Array Bool} {a : Act} {w : World} (hi : ops[i]? = some oi)
    (hs : Region.noSelect ops = true) (hf : Region.free md ops listed i = true) (hr : (Region.ready md ops listed).contains i = true)
    (hQ : ∀ c a w, Q (.panic c) (a.put oi.dst v) w → Q (.panic c) a w) (hy : YieldsIf P ops (fun _ => True) oi v a)
    (h : wpAnyJ P md ops Q J S fuel (listed.setIfInBounds i true) (a.put oi.dst v) w) : wpAnyJ P md ops Q J S (fuel + 1) listed a w :=
  wpAnyJ_firstW hi (Region.noSelect_spec hs) hQ fuel listed a w (Region.free_spec hi hf) (by simpa using hr) hy h
def AllReadyJ (P : Program) (md : Region.Mode) (ops : Array Oper) (Q : Exit → Act → World → Prop) (J : Nat → Bool) (S : World → Prop) (fuel : Nat) (listed : Array Bool) (a : Act) (w : World) (rs : List Nat) : Prop :=
  ∀ i ∈ rs, wpOp P ops Q i (fun a' w' => (J i = true → S w → S w') ∧ wpAnyJ P md ops Q J S fuel (listed.setIfInBounds i true) a' w') a w
theorem AllReadyJ.nil {fuel : Nat} {listed : Array Bool} {a : Act} {w : World} : AllReadyJ P md ops Q J S fuel listed a w [] := fun _ h => by cases h
theorem AllReadyJ.cons {fuel : Nat} {listed : Array Bool} {a : Act} {w : World} {i : Nat} {o : Oper} {rs : List Nat} (ho : ops[i]? = some o)
    (h : ∀ K' : Act → World → Prop, Shut (∀ a w', (J i = true → S w → S w') → wpAnyJ P md ops Q J S fuel (listed.setIfInBounds i true) a w' → K' a w') → if Region.wanted o (yielded ops a.tmps) = true then Oper.wp P o a w K' Q else K' (a.put o.dst undef) w)
    (hs : AllReadyJ P md ops Q J S fuel listed a w rs) : AllReadyJ P md ops Q J S fuel listed a w (i :: rs) := fun j hj => by
  rcases List.mem_cons.1 hj with rfl | hj
  · exact wpOp_step ho (fun K' hK => h K' (fun a w' hS hW => hK a w' ⟨hS, hW⟩))
  · exact hs j hj
theorem wpAnyJ_ready {rs : List Nat} {fuel : Nat} {listed : Array Bool} {a : Act} {w : World} (hr : Region.ready md ops listed = rs) (hne : rs ≠ [])
    (h : AllReadyJ P md ops Q J S fuel listed a w rs) : wpAnyJ P md ops Q J S (fuel + 1) listed a w :=
  ⟨fun h0 => absurd (hr ▸ h0) hne, hr ▸ h⟩
theorem wpAnyJ_done {listed : Array Bool} {a : Act} {w : World} (hr : Region.ready md ops listed = []) (h : Q .normal a w) :
    ∀ fuel, wpAnyJ P md ops Q J S fuel listed a w
  | 0 => ⟨hr, h⟩
  | _ + 1 => ⟨fun _ => h, by rw [hr]; simp⟩
theorem wp_region_late {id : Nat} {a : Act} {w : World} (hm : P.follows .mixedOrders = true) (hS : S w.drew)
    (h : S w.drew → wpAnyJ P .any ops Q J S ops.size (Array.replicate ops.size false) a w.drew) : (Code.region id ops true).wp P Q a w :=
  wp_region_any hm (wpAny_of_late _ _ _ _ (h hS))
end
end Go.Proofs.YtfkhhplcogedmaaGreatDoor
