/-
  Plan: New.
-/
import Derived.Test.YthgjdmomcpcolaaSo
namespace Go.Proofs.Ythgjdmomcpcolaa
open Go.RowKit
set_option maxRecDepth 100000
/-! ### Systems as they are handed in -/
abbrev Yc := Value × Value × Value × Value
def y8 (y : Yc) : List Value := [y.1, y.2.1, y.2.2.1, y.2.2.2, .string ByteArray.empty, .int .i64 0, .int .i64 0, .slice none 0 0]
def yc : List Yc → List Value
  | [] => []
  | y :: t => y8 y ++ yc t
theorem yc_len : ∀ l : List Yc, (yc l).length = l.length * 8
  | [] => rfl
  | y :: t => by simp [yc, y8, yc_len t]; omega
theorem yc_append : ∀ a b : List Yc, yc (a ++ b) = yc a ++ yc b
  | [], _ => rfl
  | y :: t, b => by simp [yc, yc_append t b]
theorem yc_at : ∀ (l : List Yc) (i : Nat) (h : i < l.length) (k : Nat), k < 8 → (yc l)[i * 8 + k]? = (y8 l[i])[k]?
  | y :: t, 0, _, k, hk => by
    rw [Nat.zero_mul, Nat.zero_add]
    simp only [yc, List.getElem_cons_zero]
    rw [List.getElem?_append_left (by simpa [y8] using hk)]
  | y :: t, i + 1, h, k, hk => by
    have := yc_at t i (by simpa using h) k hk
    simp only [yc, List.getElem_cons_succ]
    rw [List.getElem?_append_right (by simp [y8]; omega), ← this]
    congr 1
    simp [y8]
    omega
theorem yc_take : ∀ (l : List Yc) (n : Nat), (yc l).take (n * 8) = yc (l.take n)
  | [], n => by simp [yc]
  | y :: t, 0 => by simp [yc]
  | y :: t, n + 1 => by
    rw [show (n + 1) * 8 = n * 8 + 8 by omega]
    simp only [yc, List.take_succ_cons]
    rw [List.take_append]
    have : (y8 y).length = 8 := rfl
    rw [this, List.take_of_length_le (by rw [this]; omega), Nat.add_sub_cancel, yc_take t n]
theorem own_prefix {w : World} {B e s g n n2 c : Nat} {ys : List Value} (h : w.ownsRow B e s (.slice (some ⟨g, 0, none⟩) n2 c) n2 ys) (hn : n ≤ n2) : w.ownsRow B e s (.slice (some ⟨g, 0, none⟩) n c) n (ys.take (n * s)) := by
  have hm : n * s ≤ n2 * s := Nat.mul_le_mul_right _ hn
  have hl := h.1
  rcases h.2 with ⟨e, -⟩ | ⟨g', cap, cur, e, hb, hg, h1, h2, h3, h4⟩
  · cases e
  · simp only [Value.slice.injEq, Option.some.injEq, Addr.mk.injEq, and_true, true_and] at e
    obtain ⟨rfl, rfl⟩ := e
    refine ⟨by rw [List.length_take, hl]; omega, .inr ⟨g, c, cur, rfl, hb, hg, by omega, h2, h3, ?_⟩⟩
    rw [← h4, List.take_take, Nat.min_eq_left hm]
def IsSl (v : Value) : Prop := ∃ a n c, v = .slice a n c
def Ys (w : World) (v : Value) (ys : List Yc) (l : List Sy) : Prop :=
  w.ownsRow 0 56 8 v ys.length (yc ys) ∧ ys.length = l.length ∧ (∀ i (h1 : i < ys.length) (h2 : i < l.length), Ac w 0 ys[i].2.2.1 ys[i].2.2.2 l[i]) ∧ ∀ y ∈ ys, IsSl y.1 ∧ IsSl y.2.1
theorem Ys.later {w w' : World} {v : Value} {ys : List Yc} {l : List Sy} (h : Ys w v ys l) (hb : Below w.heap.size w w') : Ys w' v ys l :=
  ⟨own_later h.1 hb, h.2.1, fun i h1 h2 => (h.2.2.1 i h1 h2).later hb, h.2.2.2⟩
theorem Ys.at {w : World} {g c n : Nat} {ys : List Yc} {l : List Sy} (h : Ys w (.slice (some ⟨g, 0, none⟩) n c) ys l) (i : Nat) (hi : i < ys.length) : ∀ k, k < 8 → w.cell? ⟨g, i * 8 + k, none⟩ = (y8 ys[i])[k]? := fun k hk => by
  obtain ⟨ao, c', e⟩ := own_len h.1
  simp only [Value.slice.injEq] at e
  obtain ⟨rfl, rfl, rfl⟩ := e
  rw [h.1.cellAt (i * 8 + k) (by omega), yc_at ys i hi k hk]
theorem pc_of : ∀ (n : Nat) (xs : List Value), xs.length = n * 2 → ∃ vs : List (Value × Value), vs.length = n ∧ pc vs = xs
  | 0, xs, h => ⟨[], rfl, (List.eq_nil_of_length_eq_zero (by omega)).symm⟩
  | n + 1, xs, h => by
    match xs, h with
    | [], h => simp at h
    | [a], h => simp at h; omega
    | a :: b :: t, h =>
      obtain ⟨vs, h1, h2⟩ := pc_of n t (by simp at h; omega)
      exact ⟨(a, b) :: vs, by simp [h1], by simp [pc, h2]⟩
def setS (s : Sy) : Sy := (setL s.1, setL s.2)
theorem setS_alike (s : Sy) : Alike (setS s) s := ⟨setL_mem s.1, setL_mem s.2⟩
theorem info74 : (Try.prog.info? 74).map (fun i => (i.zero, i.size, i.bytes)) = some (some (.agg #[.slice none 0 0, .slice none 0 0]), 2, 48) := by kernel_rfl
/-- A plan in memory. -/
def Pl (w : World) (B g : Nat) (L : List Sy) : Prop :=
  ∃ va vs vt rs sts, w.heap[g]? = some (.cells #[va, vt] 66 (0, 0)) ∧ As w B va vs L ∧ Ss w B vt rs sts ∧ StOf L L.length sts ∧ (∀ s ∈ L, s.1.Pairwise (· < ·) ∧ s.2.Pairwise (· < ·)) ∧ L.length ≤ 1000 ∧ B ≤ g
theorem Pl.later {w w' : World} {B g : Nat} {L : List Sy} (h : Pl w B g L) (hb : Below w.heap.size w w') : Pl w' B g L := by
  obtain ⟨va, vs, vt, rs, sts, h1, h2, h3, h4⟩ := h
  exact ⟨va, vs, vt, rs, sts, (hb.block g (lt_of_block h1)).trans h1, h2.later hb, h3.later hb, h4⟩
/-- Under way in New: the first i are put in. -/
def Nv (w : World) (gp ga : Nat) (l : List Sy) (i : Nat) (W : World) : Prop :=
  ∃ vs : List (Value × Value), vs.length = l.length ∧ W.ownsRow w.heap.size 74 2 (.slice (some ⟨ga, 0, none⟩) l.length l.length) l.length (pc vs) ∧ (∀ k (h1 : k < vs.length) (h2 : k < l.length), k < i → Ac W w.heap.size vs[k].1 vs[k].2 (setS l[k])) ∧ W.heap[gp]? = some (.cells #[.slice (some ⟨ga, 0, none⟩) l.length l.length, .slice none 0 0] 66 (0, 0)) ∧ Below w.heap.size w W ∧ w.heap.size ≤ gp ∧ w.heap.size ≤ ga
theorem Nv.put {w W W' : World} {gp ga : Nat} {l : List Sy} {i : Nat} {va vb : Value} (h : Nv w gp ga l i W) (hi : i < l.length) (hb : Below W.heap.size W W') (ha : Ac W' w.heap.size va vb (setS l[i])) : Nv w gp ga l (i + 1) ((W'.setCell ⟨ga, i * 2, none⟩ va).setCell ⟨ga, i * 2 + 1, none⟩ vb) := by
  obtain ⟨vs, h1, h2, h3, h4, h5, h6, h7⟩ := h
  have hne : gp ≠ ga := fun e => by
    obtain ⟨cur, hc⟩ := own_block h2 rfl
    rw [← e, h4] at hc
    simp at hc
  have hmv : Mv W ((W'.setCell ⟨ga, i * 2, none⟩ va).setCell ⟨ga, i * 2 + 1, none⟩ vb) (fun k => k = ga) := ((Mv.of_below hb (fun k => k = ga)).set (g := ga) rfl (i * 2) va).set (g := ga) rfl (i * 2 + 1) vb
  have hmv' : Mv W' ((W'.setCell ⟨ga, i * 2, none⟩ va).setCell ⟨ga, i * 2 + 1, none⟩ vb) (fun k => k = ga) := ((Mv.refl W' (fun k => k = ga)).set (g := ga) rfl (i * 2) va).set (g := ga) rfl (i * 2 + 1) vb
  have hrow : ∀ {Wx : World} {x : Value} {lx : List Int}, Rw Wx w.heap.size x lx → (∃ xs, Wx.ownsRow w.heap.size 74 2 (.slice (some ⟨ga, 0, none⟩) l.length l.length) l.length xs) → ∀ k, x.ownBlock = some k → ¬ k = ga := fun hx ⟨xs, ho⟩ k hk e => own_apart ho hx (by decide) k (by rw [e]; rfl) hk
  have ho' := own_later h2 hb
  have hset := ((ho'.stored (i * 2) va).1.stored (i * 2 + 1) vb).1
  rw [pc_set vs i va vb (by omega)] at hset
  refine ⟨vs.set i (va, vb), by simp [h1], hset, fun k k1 k2 hk => ?_, ?_, ?_, h6, h7⟩
  · rw [List.getElem_set]
    by_cases e : i = k
    · subst e
      rw [if_pos rfl]
      exact ⟨hmv'.own ha.1 (hrow ha.1 ⟨_, ho'⟩), hmv'.own ha.2.1 (hrow ha.2.1 ⟨_, ho'⟩), ha.2.2⟩
    · rw [if_neg e]
      have hk1 : k < vs.length := by simpa using k1
      have h9 := h3 k hk1 k2 (by omega)
      exact ⟨hmv.own h9.1 (hrow h9.1 ⟨_, h2⟩), hmv.own h9.2.1 (hrow h9.2.1 ⟨_, h2⟩), h9.2.2⟩
  · exact hmv.at h4 hne
  · exact h5.trans (hmv.below h5.size (fun k e => by rw [e]; exact h7))
theorem setS_ac {w : World} {B : Nat} {va vb : Value} {s : Sy} (h1 : Rw w B va (setL s.1)) (h2 : Rw w B vb (setL s.2)) (hs : (∀ x ∈ s.1, InI x) ∧ (∀ x ∈ s.2, InI x) ∧ s.1.length ≤ 1000 ∧ s.2.length ≤ 1000) : Ac w B va vb (setS s) :=
  ⟨h1, h2, fun x hx => hs.1 x ((setL_mem _ _).1 hx), fun x hx => hs.2.1 x ((setL_mem _ _).1 hx), Nat.le_trans (setL_len _) hs.2.2.1, Nat.le_trans (setL_len _) hs.2.2.2⟩
set_option maxHeartbeats 4000000 in
theorem new_any {w : World} {v : Value} {ys : List Yc} {l : List Sy} (h : Ys w v ys l) (hl : l.length ≤ 1000) : Calls Try.prog 22 #[v] w fun e w' => ∃ g, e = .returned (.pointer (some ⟨g, 0, none⟩)) ∧ Pl w' w.heap.size g (l.map setS) ∧ Below w.heap.size w w' := by
  obtain ⟨av, cv, rfl⟩ := own_len h.1
  obtain ⟨hcv1, hcv2⟩ := own_cap h.1
  have hyl := h.2.1
  rw [hyl] at h hcv1 ⊢
  have H := hide h
  have HL := hide hl
  have HYL := hide hyl
  obtain ⟨i0, hi0, hz0, hz1, hz2⟩ := info_parts info74
  clear h hl hyl
  go_enter Try.func22, Try.ntmps22
  go_wp2_with (at_make; refine wpList_make_full _ rfl _ _ 64 rfl w.heap.size 74 i0 (.agg #[.slice none 0 0, .slice none 0 0]) 2 Try.underlying64 hi0 hz0 hz1 .i64 .i64 _ _ l.length rfl rfl ?c1 ?c2 ?c3 ?c4 ?c5 ?_)
  case c1 => rfl
  case c2 => rfl
  case c3 => have := HL.out; rw [hz2]; omega
  case c4 => have := HL.out; unfold maxLen; omega
  case c5 => omega
  intro w1 hown hgrow
  have hb1 : Below w.heap.size w w1 := (Below.refl _ w).grown hgrow (Nat.le_refl _) (fun k e => by cases e)
  have hs1 : w.heap.size < w1.heap.size := (hown.lt w.heap.size rfl).2
  obtain ⟨vs0, hv0, hp0⟩ := pc_of l.length _ hown.1
  rw [← hp0] at hown
  have N0 : Hid (Nv w w1.heap.size w.heap.size l 0 (w1.alloc (.cells #[.slice (some ⟨w.heap.size, 0, none⟩) l.length l.length, .slice none 0 0] 66))) := by
    have b2 := below_alloc w1 (.cells #[.slice (some ⟨w.heap.size, 0, none⟩) l.length l.length, .slice none 0 0] 66)
    exact ⟨vs0, hv0, own_later hown b2, fun k _ _ hk => by omega, heap_alloc_new w1 _, below_on hb1 b2, hb1.size, Nat.le_refl _⟩
  clear hown hgrow hb1 hs1 hv0 hp0
  go_wp2_with fail
  generalize w1.alloc (.cells #[.slice (some ⟨w.heap.size, 0, none⟩) l.length l.length, .slice none 0 0] 66) = w2 at *
  generalize w1.heap.size = gp at *
  obtain ⟨ga, hga⟩ : ∃ X, X = w.heap.size := ⟨_, rfl⟩
  rw [← hga]
  have N0 : Hid (Nv w gp ga l 0 w2) := by rw [hga]; exact N0.out
  clear hga
  go_loopw [13] (fun v13 W => ∃ i : Nat, i ≤ l.length ∧ v13 = .int .i64 (i : Int) ∧ Hid (Nv w gp ga l i W)) (fun v13 _ => l.length - (intOf v13).toNat)
  case atStart => exact ⟨0, Nat.zero_le _, rfl, N0.out⟩
  case round =>
    obtain ⟨i, hi, rfl, HN⟩ := hrel
    clear N0
    by_cases hlt : i < l.length
    · have t1 : (i : Int) < (l.length : Int) := by omega
      have hyi : i < ys.length := by have := HYL.out; omega
      have hY := H.out.later HN.out.choose_spec.2.2.2.2.1
      obtain ⟨gv, cv', e0, -⟩ := own_form hY.1 (by omega)
      simp only [Value.slice.injEq] at e0
      obtain ⟨rfl, -, rfl⟩ := e0
      have hat := hY.at i hyi
      have hAc := hY.2.2.1 i hyi hlt
      have hsl := hY.2.2.2 ys[i] (List.getElem_mem hyi)
      have p0 := hat 0 (by omega)
      have p1 := hat 1 (by omega)
      have p2 := hat 2 (by omega)
      have p3 := hat 3 (by omega)
      have p4 := hat 4 (by omega)
      have p5 := hat 5 (by omega)
      have p6 := hat 6 (by omega)
      have p7 := hat 7 (by omega)
      simp only [y8, List.getElem?_cons_zero, List.getElem?_cons_succ, Nat.add_zero] at p0 p1 p2 p3 p4 p5 p6 p7
      generalize ys[i] = y at *
      obtain ⟨yw, yo, yr, yx⟩ := y
      dsimp only at p0 p1 p2 p3 hAc hsl
      obtain ⟨⟨yw1, yw2, yw3, rfl⟩, yo1, yo2, yo3, rfl⟩ := hsl
      obtain ⟨ar, cr, rfl⟩ := own_len hAc.1
      obtain ⟨ax, cx, rfl⟩ := own_len hAc.2.1
      have HAC := hide hAc
      clear hat hAc hY
      go_wp2_with fail
      obtain ⟨w5, hw5⟩ : ∃ X, X = wr.alloc (Obj.cells #[Value.slice yw1 yw2 yw3, Value.slice yo1 yo2 yo3, Value.slice ar l[i].1.length cr, Value.slice ax l[i].2.length cx, Value.string ByteArray.empty, Value.int .i64 0, Value.int .i64 0, Value.slice none 0 0] 56) := ⟨_, rfl⟩
      rw [← hw5]
      have b5 : Below wr.heap.size wr w5 := hw5 ▸ below_alloc wr _
      have c5 : w5.heap[wr.heap.size]? = some (Obj.cells #[Value.slice yw1 yw2 yw3, Value.slice yo1 yo2 yo3, Value.slice ar l[i].1.length cr, Value.slice ax l[i].2.length cx, Value.string ByteArray.empty, Value.int .i64 0, Value.int .i64 0, Value.slice none 0 0] 56 (0, 0)) := hw5 ▸ heap_alloc_new wr _
      clear hw5 p0 p1 p2 p3 p4 p5 p6 p7
      have hgp : gp < wr.heap.size := by
        obtain ⟨vs, -, -, -, h4, -⟩ := HN.out
        exact lt_of_block h4
      have hN5 : ∀ V, Below w5.heap.size w5 V → V.cell? ⟨gp, 0, none⟩ = some (.slice (some ⟨ga, 0, none⟩) l.length l.length) ∧ V.cell? ⟨wr.heap.size, 2, none⟩ = some (.slice ar l[i].1.length cr) ∧ V.cell? ⟨wr.heap.size, 3, none⟩ = some (.slice ax l[i].2.length cx) := fun V hV => by
        obtain ⟨vs, -, -, -, h4, -⟩ := HN.out
        have hb := below_on b5 hV
        have c6 := (hV.block _ (lt_of_block c5)).trans c5
        refine ⟨?_, ?_, ?_⟩
        · rw [cell_of_row V _ _ _ 66 (0, 0) ((hb.block gp hgp).trans h4)]; rfl
        · rw [cell_of_row V _ _ _ 56 (0, 0) c6]; rfl
        · rw [cell_of_row V _ _ _ 56 (0, 0) c6]; rfl
      have SS := hide (hN5 w5 (Below.refl _ _))
      have NN := hide hN5
      have JA : Hid (∀ V, Below w5.heap.size w5 V → Calls Try.prog 43 #[.slice ar l[i].1.length cr] V fun e w' => ∃ v', e = .returned v' ∧ Rw w' V.heap.size v' (setL l[i].1) ∧ Below V.heap.size V w') := fun V hV => setof_any (own_later HAC.out.1 (below_on b5 hV)) (by have := HAC.out.2.2.2.2; omega)
      have JB : Hid (∀ V, Below w5.heap.size w5 V → Calls Try.prog 43 #[.slice ax l[i].2.length cx] V fun e w' => ∃ v', e = .returned v' ∧ Rw w' V.heap.size v' (setL l[i].2) ∧ Below V.heap.size V w') := fun V hV => setof_any (own_later HAC.out.2.1 (below_on b5 hV)) (by have := HAC.out.2.2.2.2; omega)
      have B5 := hide b5
      have FIN : Hid (∀ V va vb, Below w5.heap.size w5 V → Rw V w.heap.size va (setL l[i].1) → Rw V w.heap.size vb (setL l[i].2) → Nv w gp ga l (i + 1) ((V.setCell ⟨ga, i * 2, none⟩ va).setCell ⟨ga, i * 2 + 1, none⟩ vb)) := fun V va vb hV h1 h2 => HN.out.put hlt (below_on b5 hV) (setS_ac h1 h2 HAC.out.2.2)
      have ROW : Hid (∀ V, Below w5.heap.size w5 V → (∃ u, V.cell? ⟨ga, i * 2, none⟩ = some u) ∧ (∃ u, V.cell? ⟨ga, i * 2 + 1, none⟩ = some u) ∧ (∀ k, V.frozen? ⟨ga, k, none⟩ = false) ∧ w.heap.size ≤ V.heap.size) := fun V hV => by
        obtain ⟨vs, h1, h2, -, -, h5, -⟩ := HN.out
        have ho := own_later h2 (below_on b5 hV)
        have hl2 := ho.1
        refine ⟨⟨(pc vs)[i * 2]'(by omega), ?_⟩, ⟨(pc vs)[i * 2 + 1]'(by omega), ?_⟩, fun k => ho.frozenAt k, Nat.le_trans h5.size (below_on b5 hV).size⟩
        · rw [ho.cellAt (i * 2) (by omega), List.getElem?_eq_getElem]
        · rw [ho.cellAt (i * 2 + 1) (by omega), List.getElem?_eq_getElem]
      have SK : Hid (∀ (V : World) (u1 u2 : Value) (b k : Nat) (x : Value), (b = gp ∨ b = wr.heap.size) → V.cell? ⟨b, k, none⟩ = some x → ((V.setCell ⟨ga, i * 2, none⟩ u1).setCell ⟨ga, i * 2 + 1, none⟩ u2).cell? ⟨b, k, none⟩ = some x) := fun V u1 u2 b k x hb hx => by
        have hne : ga ≠ b := fun e => by
          obtain ⟨vs, -, h2, -, h4, -⟩ := HN.out
          obtain ⟨cur, hc⟩ := own_block h2 (g := ga) rfl
          rcases hb with hb | hb
          · rw [e, hb, h4] at hc
            simp at hc
          · have := lt_of_block hc
            omega
        exact (World.cell?_of_block ((heap_setCell_other _ ⟨ga, i * 2 + 1, none⟩ b u2 hne.symm).trans (heap_setCell_other V ⟨ga, i * 2, none⟩ b u1 hne.symm))).trans hx
      clear b5 c5 hN5 hgp HAC
      generalize wr.heap.size = q5 at *
      go_region_held3 (fun V => V.cell? ⟨gp, 0, none⟩ = some (.slice (some ⟨ga, 0, none⟩) l.length l.length) ∧ V.cell? ⟨q5, 2, none⟩ = some (.slice ar l[i].1.length cr) ∧ V.cell? ⟨q5, 3, none⟩ = some (.slice ax l[i].2.length cx)) (first | exact SS.out | exact S6 | exact S7 | exact ⟨SK.out _ _ _ _ _ _ (.inl rfl) S7.1, SK.out _ _ _ _ _ _ (.inr rfl) S7.2.1, SK.out _ _ _ _ _ _ (.inr rfl) S7.2.2⟩) ((go_at_call 43; first | (refine (JB.out _ B6.out).mono ?_; rintro e w7 ⟨v7, rfl, h7, b7⟩; obtain ⟨a7, c7, rfl⟩ := own_len h7; have B7 := hide (below_on B6.out b7); have S7 := NN.out _ B7.out; obtain ⟨⟨u1, hu1⟩, ⟨u2, hu2⟩, hfz, hsz⟩ := ROW.out _ B7.out; have H7 := hide h7; have H67 := hide (own_later H6.out b7); clear h7 b7) | (refine (JA.out _ (below_drew w5)).mono ?_; rintro e w6 ⟨v6, rfl, h6, b6⟩; obtain ⟨a6, c6, rfl⟩ := own_len h6; have B6 := hide (below_on (below_drew w5) b6); have S6 := NN.out _ B6.out; have H6 := hide h6; clear h6 b6)))
      have HR := hide (FIN.out w7 _ _ B7.out (own_lower H67.out (by have := ROW.out w5 (Below.refl _ _); have := this.2.2.2; simpa using this)) (own_lower H7.out (by have := ROW.out w6 B6.out; exact this.2.2.2)))
      go_wp2_with fail
      go_roundw
      case rel => exact ⟨i + 1, by omega, rfl, HR.out⟩
      case measure => simp only [intOf]; omega
    · have t1 : ¬ (i : Int) < (l.length : Int) := by omega
      obtain rfl : i = l.length := by omega
      have hAs : As wr w.heap.size (.slice (some ⟨ga, 0, none⟩) l.length l.length) HN.out.choose (l.map setS) := by
        obtain ⟨h1, h2, h3, -⟩ := HN.out.choose_spec
        refine ⟨by rw [h1]; exact h2, by rw [h1, List.length_map], fun k k1 k2 => ?_⟩
        rw [List.getElem_map]
        exact h3 k k1 (by simpa using k2) (by simpa using k2)
      obtain ⟨h1, h2, h3, h4, h5, h6, h7⟩ := HN.out.choose_spec
      have JS := hide (stagesof_any hAs (by simpa using HL.out))
      have HAS := hide hAs
      have hc0 : wr.cell? ⟨gp, 0, none⟩ = some (.slice (some ⟨ga, 0, none⟩) l.length l.length) := by rw [cell_of_row wr _ _ _ 66 (0, 0) h4]; rfl
      have H4 := hide h4
      have H5 := hide h5
      have H6 := hide h6
      clear hAs h1 h2 h3 h4 h5 h6 h7
      go_wp2_with fail
      refine JS.out.mono ?_
      rintro e w8 ⟨vt, rs, sts, rfl, hS, hSt, b8⟩
      obtain ⟨at', ct, rfl⟩ := own_len hS.1
      have h48 := (b8.block gp (lt_of_block H4.out)).trans H4.out
      have hc1 : w8.cell? ⟨gp, 1, none⟩ = some (.slice none 0 0) := by rw [cell_of_row w8 _ _ _ 66 (0, 0) h48]; rfl
      have hf1 : w8.frozen? ⟨gp, 1, none⟩ = false := frozen_of_row w8 gp 1 _ 66 h48
      have FN : Hid (Pl (w8.setCell ⟨gp, 1, none⟩ (.slice at' rs.length ct)) w.heap.size gp (l.map setS) ∧ Below w.heap.size w (w8.setCell ⟨gp, 1, none⟩ (.slice at' rs.length ct))) := by
        have hAs8 := HAS.out.later b8
        have hmv : Mv w8 (w8.setCell ⟨gp, 1, none⟩ (.slice at' rs.length ct)) (fun k => k = gp) := (Mv.refl w8 (fun k => k = gp)).set (g := gp) rfl 1 _
        have nb : ∀ {e s n B : Nat} {x : Value} {xs : List Value}, w8.ownsRow B e s x n xs → e ≠ 66 → ∀ k, x.ownBlock = some k → ¬ k = gp := fun ho he k hk e => by
          obtain ⟨cur, hc⟩ := own_block ho hk
          rw [e, h48] at hc
          simp only [Option.some.injEq, Obj.cells.injEq] at hc
          exact he hc.2.1.symm
        refine ⟨⟨_, _, _, _, _, ?_, ⟨hmv.own hAs8.1 (nb hAs8.1 (by decide)), hAs8.2.1, fun k k1 k2 => ?_⟩, (?_ : Ss _ w.heap.size (.slice at' rs.length ct) rs sts), by simpa using hSt, fun s hs => ?_, by simpa using HL.out, H6.out⟩, ?_⟩
        · exact heap_setCell_same w8 gp 1 _ 66 (.slice at' rs.length ct) h48
        · have h9 := hAs8.2.2 k k1 k2
          exact ⟨hmv.own h9.1 (nb h9.1 (by decide)), hmv.own h9.2.1 (nb h9.2.1 (by decide)), h9.2.2⟩
        · have hS' : Ss w8 w.heap.size (.slice at' rs.length ct) rs sts := ⟨own_lower hS.1 H5.out.size, hS.2.1, fun j hj hj2 => own_lower (hS.2.2.1 j hj hj2) H5.out.size, hS.2.2.2⟩
          refine hS'.frame hmv (nb hS'.1 (by decide)) (fun r hr k hk => ?_)
          obtain ⟨j, hj, rfl⟩ := List.getElem_of_mem hr
          exact nb (hS'.2.2.1 j hj (by rw [← hS'.2.1]; exact hj)) (by decide) k hk
        · obtain ⟨t, -, rfl⟩ := List.mem_map.1 hs
          exact ⟨setL_rise _, setL_rise _⟩
        · have hb8 := below_on H5.out b8
          exact hb8.trans (hmv.below hb8.size (fun k e => by rw [e]; exact H6.out))
      clear hS hSt b8 h48
      go_wp2_with fail
      go_ret
      exact ⟨gp, rfl, FN.out⟩
end Go.Proofs.Ythgjdmomcpcolaa
