import Derived.Test.YtafmiolehlagkaaGreatNm4
import Derived.Test.YtafmiolehlagkaaGreatNm3
import Derived.Deep.RegionHeld3
import Derived.Lib.SliceRun
import Derived.Maps.RangeWalk
/-
  World: WorldStale's state: the world, all that were given, and which of them are there.
-/
namespace Go.Proofs.YtafmiolehlagkaaGreat
open Go.RowKit
set_option maxRecDepth 100000
section
variable {w W W' : World} {own own' : Nat → Nat} {gw N : Nat} {ks : List Kind} {gs fr : List Nat} {C : Co}
theorem Wn.frame {S : Nat → Prop} (h : Wn W own gw N ks gs fr C) (hm : Mv W W' S) (hS : ∀ k, k < W.heap.size → S k → own k = 0) : Wn W' (rel own W 0) gw N ks gs fr C := by
  obtain ⟨vk, gp, gm, gt, q, T, h1, h2⟩ := h
  exact ⟨vk, gp, gm, gt, q, T, h1.frame (.inl rfl) hm (fun k hk e => .inl (hS k hk e)), h2⟩
theorem Wn.lives (h : Wn W own gw N ks gs fr C) (a b : Int) : Calls Tryz.prog 32 #[.pointer (some ⟨gw, 0, none⟩), .agg #[.int .i64 a, .int .i64 b]] W fun e w' => e = .returned (.bool (C (a, b)).isSome) ∧ Below W.heap.size W w' := by
  obtain ⟨vk, gp, gm, gt, q, T, h1, h2, h3, h4, h5, h6⟩ := h
  rw [← h5]
  exact wlives_any h1 a b
def liveE (C : Co) (a b z : Int) : Int := if (C (a, b)).isSome then z else 41
theorem Wn.row (h : Wn W own gw N ks gs fr C) (a b : Int) : Calls Tryz.prog 33 #[.pointer (some ⟨gw, 0, none⟩), .agg #[.int .i64 a, .int .i64 b]] W fun e w' => (∃ x y a' n c, e = .returned (.tuple #[.agg #[.int .i64 x, .int .i64 y, .slice a' n c], .int .i64 (liveE C a b 0)])) ∧ Below W.heap.size W w' := by
  have ho := h.ok
  obtain ⟨vk, gp, gm, gt, q, T, h1, h2, h3, h4, h5, h6⟩ := h
  unfold liveE
  cases hc : C (a, b) with
  | none =>
    refine (row_stale h1 a b (by rw [h5, hc]; rfl)).mono ?_
    rintro e w' ⟨rfl, hb⟩
    exact ⟨⟨0, 0, none, 0, 0, rfl⟩, hb⟩
  | some p =>
    obtain ⟨s, vals⟩ := p
    have hl : livesOf gs fr a b = true := by rw [h5, hc]; rfl
    have hf := fC_some hc
    obtain ⟨hs, ⟨g, hq⟩, -⟩ := h2.1 _ s hf
    obtain ⟨i, hi, hx, -⟩ := h3 _ s vals hc
    refine (row_live h1 a b hl (inb_of ho hl) h4.2.1 s g i hf hq hs hi hx (h2.2 s g hq).2.1).mono ?_
    rintro e w' ⟨v, rfl, ⟨L, hL, -⟩, hb⟩
    obtain ⟨a', n, c, rfl⟩ := own_slice hL
    exact ⟨⟨a, b, a', n, c, rfl⟩, hb⟩
theorem Wn.has (h : Wn W own gw N ks gs fr C) (a b : Int) : ∃ s, s < 8192 ∧ (livesOf gs fr a b = true → fC C (a, b) = some s) := by
  obtain ⟨vk, gp, gm, gt, q, T, h1, h2, h3, h4, h5, h6⟩ := h
  cases hc : C (a, b) with
  | none => exact ⟨0, by omega, fun e => by rw [h5, hc] at e; cases e⟩
  | some p =>
    obtain ⟨s, vals⟩ := p
    exact ⟨s, (h2.1 _ s (fC_some hc)).1, fun _ => fC_some hc⟩
/-- What all calls of a kind that is none answer. -/
theorem Wn.errs (h : Wn W own gw N ks gs fr C) (a b x : Int) (hib : InB (a, b)) (hx : ¬ (1 ≤ x ∧ x ≤ (ks.length : Int))) :
    (Calls Tryz.prog 34 #[.pointer (some ⟨gw, 0, none⟩), .agg #[.int .i64 a, .int .i64 b], .int .i64 x] W fun e w' => e = .returned (.tuple #[.agg #[.int .i64 0, .slice none 0 0], .int .i64 (liveE C a b 60)]) ∧ Below W.heap.size W w') ∧
    (∀ av nv cv, Calls Tryz.prog 35 #[.pointer (some ⟨gw, 0, none⟩), .agg #[.int .i64 a, .int .i64 b], .agg #[.int .i64 x, .slice av nv cv]] W fun e w' => e = .returned (.int .i64 (liveE C a b 60)) ∧ Below W.heap.size W w') ∧
    (Calls Tryz.prog 26 #[.pointer (some ⟨gw, 0, none⟩), .agg #[.int .i64 a, .int .i64 b], .int .i64 x] W fun e w' => e = .returned (.int .i64 (liveE C a b 60)) ∧ Below W.heap.size W w') ∧
    ∀ av nv cv, Calls Tryz.prog 27 #[.pointer (some ⟨gw, 0, none⟩), .agg #[.int .i64 a, .int .i64 b], .agg #[.int .i64 x, .slice av nv cv]] W fun e w' => e = .returned (.int .i64 (liveE C a b 60)) ∧ Below W.heap.size W w' := by
  obtain ⟨s, hs, hf⟩ := h.has a b
  obtain ⟨vk, gp, gm, gt, q, T, h1, h2, h3, h4, h5, h6⟩ := h
  have hz : hasE ks (livesOf gs fr a b) s x = liveE C a b 60 := by
    unfold hasE liveE
    rw [h5]
    by_cases c : (C (a, b)).isSome = true
    · rw [if_pos c, if_pos c, if_neg hx]
    · rw [if_neg c, if_neg c]
  have hz0 : liveE C a b 60 ≠ 0 := by
    unfold liveE
    split <;> omega
  refine ⟨get_err h1 a b x hib h4.2.1 s hs hf _ hz hz0, fun av nv cv => wset_err h1 a b x hib h4.2.1 s hs hf _ hz hz0 av nv cv, remove_err h1 a b x hib h4.2.1 s hs hf _ hz hz0, fun av nv cv => ?_⟩
  by_cases c : livesOf gs fr a b = true
  · have e : liveE C a b 60 = 60 := by
      unfold liveE
      rw [h5] at c
      rw [if_pos c]
    rw [e]
    refine Go.Proofs.YtafmiolehlagkaaGreat.add_err h1 a b x hib h4.2.1 s hs (hf c) av nv cv c 60 ?_ (by omega)
    unfold comeS
    rw [if_neg hx]
  · have c2 : livesOf gs fr a b = false := by simpa using c
    have e : liveE C a b 60 = 41 := by
      unfold liveE
      rw [h5] at c
      rw [if_neg c]
    rw [e]
    exact add_stale h1 a b x av nv cv c2
/-- How many rows there are. -/
theorem Wn.count (h : Wn W own gw N ks gs fr C) {t : Nat} {all : List (Nat × Nat)} {onl : List Bool} (hs : Sl t gs fr all onl) : Calls Tryz.prog 29 #[.pointer (some ⟨gw, 0, none⟩)] W fun e w' => (∃ a c, e = .returned (.slice a (cntB onl) c)) ∧ Below W.heap.size W w' := by
  have ho := h.ok
  obtain ⟨vk, gp, gm, gt, q, T, h1, h2, h3, h4, h5, h6⟩ := h
  refine (rows_any h1 h2 h4.2.1 (fun E e1 e2 => lives_cnt h5 ho.2.2.1 E e1 e2)).mono ?_
  rintro e w' ⟨v, rfl, ⟨R, r1, r2, r3, r4, r5, r6⟩, hb⟩
  obtain ⟨a, c, rfl⟩ := own_len r1
  have hn : ((aliveL all onl).map (fun p => ((p.1 : Int), (p.2 : Int)))).Nodup := List.pairwise_map.2 ((alive_nodup hs.1 hs.2.2.2.2.1).imp (fun {x y} hne e => hne (by
    simp only [Prod.mk.injEq] at e
    exact Prod.ext (by omega) (by omega))))
  have hp : (R.map entR).Perm ((aliveL all onl).map (fun p => ((p.1 : Int), (p.2 : Int)))) := (List.perm_ext_iff_of_nodup r3 hn).2 (fun e => by
    constructor
    · intro he
      obtain ⟨r, hr, rfl⟩ := List.mem_map.1 he
      have := (r4 _ (r6 r hr)).2 he
      rw [fC_is, ← h5] at this
      obtain ⟨i, i1, i2, i3, i4, i5⟩ := (lives_iff _ _ _ _).1 this
      refine List.mem_map.2 ⟨(i, gs.getD i 0), (hs.alive _).2 ?_, ?_⟩
      · rw [← i1, ← i5]; exact this
      · exact Prod.ext i1.symm i5.symm
    · intro he
      obtain ⟨p, hp, rfl⟩ := List.mem_map.1 he
      have hl := (hs.alive p).1 hp
      refine (r4 _ (inb_of ho hl)).1 ?_
      rw [fC_is, ← h5]
      exact hl)
  have hlen := hp.length_eq
  rw [List.length_map, List.length_map, alive_len hs.1] at hlen
  exact ⟨⟨a, c, by rw [hlen]⟩, hb⟩
end
/-- All of it: the world, all that were given and which of them are there (A, O), and the two lists in memory. -/
def Sx (w : World) (gw t : Nat) (W : World) (own : Nat → Nat) (v6 v7 : Value) (gs fr : List Nat) (C : Co) (all : List (Nat × Nat)) (onl : List Bool) (A : List (Nat × Nat)) (O : List Bool) : Prop :=
  Wn W own gw (4 * t) usualK gs fr C ∧ Sl t gs fr A O ∧ W.ownsRow w.heap.size 29 2 v6 all.length (ec all) ∧ W.ownsRow w.heap.size 4 1 v7 onl.length (bz onl) ∧ (∀ k, v6.ownBlock = some k → own k = 0) ∧ (∀ k, v7.ownBlock = some k → own k = 0) ∧ Fr w W own
section
variable {w W W' W1 : World} {own own' : Nat → Nat} {gw t : Nat} {v6 v7 : Value} {gs fr : List Nat} {C : Co} {all A : List (Nat × Nat)} {onl O : List Bool}
theorem Sx.later (h : Sx w gw t W own v6 v7 gs fr C all onl A O) (hb : Below W.heap.size W W') : Sx w gw t W' (rel own W 0) v6 v7 gs fr C all onl A O := by
  obtain ⟨h1, h2, h3, h4, h5, h6, h7⟩ := h
  exact ⟨h1.later hb, h2, own_later h3 hb, own_later h4 hb, fun k e => (rel_old (h3.lt k e).2).trans (h5 k e), fun k e => (rel_old (h4.lt k e).2).trans (h6 k e), h7.later hb⟩
theorem Sx.turn (h : Sx w gw t W own v6 v7 gs fr C all onl A O) (hk : Wk own own' W W') {gs' fr' : List Nat} {C' : Co} {t' : Nat} {A' : List (Nat × Nat)} {O' : List Bool} (hw : Wn W' own' gw (4 * t') usualK gs' fr' C') (hs : Sl t' gs' fr' A' O') : Sx w gw t' W' own' v6 v7 gs' fr' C' all onl A' O' := by
  obtain ⟨h1, h2, h3, h4, h5, h6, h7⟩ := h
  exact ⟨hw, hs, hk.mv.own h3 (fun k e e2 => e2 (h5 k e)), hk.mv.own h4 (fun k e e2 => e2 (h6 k e)), fun k e => (hk.1 k (h3.lt k e).2).trans (h5 k e), fun k e => (hk.1 k (h4.lt k e).2).trans (h6 k e), h7.wk hk⟩
theorem ent_bool {k : Nat} (h : Sx w gw t W own v6 v7 gs fr C all onl A O) (e : v6.ownBlock = some k) : v7.ownBlock ≠ some k := own_kinds h.2.2.1 h.2.2.2.1 (by decide) e
theorem Fr.frame {S : Nat → Prop} (h : Fr w W own) (hm : Mv W W' S) (hS : ∀ k, S k → w.heap.size ≤ k) : Fr w W' (rel own W 0) := ⟨h.1.trans (hm.below h.1.size hS), fun k hk => (rel_old (Nat.lt_of_lt_of_le hk h.1.size)).trans (h.2 k hk)⟩
/-- One more in the first list. -/
theorem Sx.push6 (h : Sx w gw t W own v6 v7 gs fr C all onl A O) {a b : Nat} {v9 : Value} (ho : W'.ownsRow w.heap.size 29 2 v9 (all.length + 1) (ec all ++ [.int .i64 (a : Int), .int .i64 (b : Int)])) (hg : W.grownBy W' v6.ownBlock) (ha : v9.ownBlock = v6.ownBlock ∨ v9.ownBlock = some W.heap.size) : Sx w gw t W' (rel own W 0) v9 v7 gs fr C (all ++ [(a, b)]) onl A O := by
  have hne := fun k e => ent_bool (k := k) h e
  obtain ⟨h1, h2, h3, h4, h5, h6, h7⟩ := h
  have hm : Mv W W' (fun k => v6.ownBlock = some k) := (Mv.refl W _).grown hg (fun k _ e => e)
  refine ⟨h1.frame hm (fun k _ e => h5 k e), h2, ?_, own_kept h4 hg (fun k e e2 => hne k e2 e), fun k e => ?_, fun k e => (rel_old (h4.lt k e).2).trans (h6 k e), h7.frame hm (fun k e => (h3.lt k e).1)⟩
  · rw [List.length_append, ec_append]
    exact ho
  · rcases ha with c | c
    · rw [c] at e
      exact (rel_old (h3.lt k e).2).trans (h5 k e)
    · rw [c] at e
      obtain rfl := Option.some.inj e
      exact rel_new (Nat.le_refl _)
/-- One more in the second list. -/
theorem Sx.push7 (h : Sx w gw t W own v6 v7 gs fr C all onl A O) {b : Bool} {v9 : Value} (ho : W'.ownsRow w.heap.size 4 1 v9 (onl.length + 1) (bz onl ++ [.bool b])) (hg : W.grownBy W' v7.ownBlock) (ha : v9.ownBlock = v7.ownBlock ∨ v9.ownBlock = some W.heap.size) : Sx w gw t W' (rel own W 0) v6 v9 gs fr C all (onl ++ [b]) A O := by
  have hne := fun k e => ent_bool (k := k) h e
  obtain ⟨h1, h2, h3, h4, h5, h6, h7⟩ := h
  have hm : Mv W W' (fun k => v7.ownBlock = some k) := (Mv.refl W _).grown hg (fun k _ e => e)
  refine ⟨h1.frame hm (fun k _ e => h6 k e), h2, own_kept h3 hg (fun k e e2 => hne k e e2), ?_, fun k e => (rel_old (h3.lt k e).2).trans (h5 k e), fun k e => ?_, h7.frame hm (fun k e => (h4.lt k e).1)⟩
  · rw [List.length_append, bz_append]
    exact ho
  · rcases ha with c | c
    · rw [c] at e
      exact (rel_old (h4.lt k e).2).trans (h6 k e)
    · rw [c] at e
      obtain rfl := Option.some.inj e
      exact rel_new (Nat.le_refl _)
/-- The second list is written over. -/
theorem Sx.set7 {g c : Nat} (h : Sx w gw t W own v6 (.slice (some ⟨g, 0, none⟩) onl.length c) gs fr C all onl A O) (k : Nat) (b : Bool) : Sx w gw t (W.setCell ⟨g, k, none⟩ (.bool b)) (rel own W 0) v6 (.slice (some ⟨g, 0, none⟩) onl.length c) gs fr C all (onl.set k b) A O := by
  have hne := fun k e => ent_bool (k := k) h e
  obtain ⟨h1, h2, h3, h4, h5, h6, h7⟩ := h
  have hm : Mv W (W.setCell ⟨g, k, none⟩ (.bool b)) (fun j => j = g) := Mv.set (S := fun j => j = g) (Mv.refl W _) rfl k (.bool b)
  refine ⟨h1.frame hm (fun j _ e => by subst e; exact h6 _ rfl), h2, own_set h3 (fun e => hne g e rfl), ?_, fun j e => (rel_old (h3.lt j e).2).trans (h5 j e), fun j e => (rel_old (h4.lt j e).2).trans (h6 j e), h7.frame hm (fun j e => by subst e; exact (h4.lt _ rfl).1)⟩
  rw [List.length_set, ← bz_set]
  exact (h4.stored k (.bool b)).1
theorem oc0 (a : Option Addr) (c : Nat) : comeL usualK 0 [(((0 : Nat) : Int) + 1, a, c4 0, c)] = 0 := by kernel_rfl
theorem oc1 (a : Option Addr) (c : Nat) : comeL usualK 0 [(((1 : Nat) : Int) + 1, a, c4 1, c)] = 0 := by kernel_rfl
theorem oc2 (a : Option Addr) (c : Nat) : comeL usualK 0 [(((2 : Nat) : Int) + 1, a, c4 2, c)] = 0 := by kernel_rfl
theorem oc3 (a : Option Addr) (c : Nat) : comeL usualK 0 [(((3 : Nat) : Int) + 1, a, c4 3, c)] = 0 := by kernel_rfl
theorem one_come (kk : Nat) (hk : kk < 4) (a : Option Addr) (n c : Nat) (hn : n = c4 kk) : comeL usualK 0 [((kk : Int) + 1, a, n, c)] = 0 := by
  subst hn
  match kk, hk with
  | 0, _ => exact oc0 a c
  | 1, _ => exact oc1 a c
  | 2, _ => exact oc2 a c
  | 3, _ => exact oc3 a c
/-- What a Spawn of one part leaves. -/
def Spawned (w : World) (gw t : Nat) (v6 v7 : Value) (all : List (Nat × Nat)) (onl : List Bool) (e : Ending) (w' : World) : Prop :=
  (cntB onl < 200 ∧ ∃ p : Nat × Nat, e = .returned (.tuple #[.agg #[.int .i64 (p.1 : Int), .int .i64 (p.2 : Int)], .int .i64 0]) ∧ p ∉ all ∧ Hid (∃ own' gs' fr' C', Sx w gw (t + 1) w' own' v6 v7 gs' fr' C' all onl (all ++ [p]) (onl ++ [true]))) ∨
  (cntB onl = 200 ∧ e = .returned (.tuple #[.agg #[.int .i64 0, .int .i64 0], .int .i64 40]) ∧ Hid (∃ own' gs' fr' C', Sx w gw (t + 1) w' own' v6 v7 gs' fr' C' all onl all onl))
theorem Sx.spawn {w2 w3 : World} (h : Sx w gw t W own v6 v7 gs fr C all onl all onl) (ht : t ≤ 300) (hb : Below W.heap.size W w2) (kk : Nat) (hk : kk < 4) (y : Int) (a : Option Addr) (n c : Nat) (ho : w2.ownsRow W.heap.size 2 1 (.slice a n c) (c4 kk) (zc (valsN y (c4 kk)))) (hw3 : w3 = w2.alloc (.cells #[.int .i64 ((kk : Int) + 1), .slice a n c] 32)) :
    Calls Tryz.prog 24 #[.pointer (some ⟨gw, 0, none⟩), .slice (some ⟨w2.heap.size, 0, none⟩) 1 1] w3 fun e w' => Spawned w gw t v6 v7 all onl e w' := by
  have hb3 : Below w2.heap.size w2 w3 := hw3 ▸ below_alloc w2 _
  have hx3 : w3.heap[w2.heap.size]? = some (.cells #[.int .i64 ((kk : Int) + 1), .slice a n c] 32 (0, 0)) := by rw [hw3]; exact heap_alloc_new w2 _
  have h3 := h.later (below_on hb hb3)
  have ho3 := own_later ho hb3
  have hn : n = c4 kk := by
    obtain ⟨x, z, e⟩ := own_len ho
    simp only [Value.slice.injEq] at e
    exact e.2.1
  have hrp : Rp w3 (.slice (some ⟨w2.heap.size, 0, none⟩) 1 1) [((kk : Int) + 1, a, n, c)] := by
    refine .inr ⟨_, 0, 1, rfl, Nat.le_refl 1, by unfold maxLen; omega, fun j u hj => ?_⟩
    rw [Nat.zero_add, cell_of_row w3 _ j _ 32 (0, 0) hx3]
    simpa [pz] using hj
  have hcome := one_come kk hk a n c hn
  have hok := h3.1.ok
  have hsb := hb.size
  have hlt := lt_of_block hx3
  by_cases hroom : fr ≠ [] ∨ gs.length < 200
  · refine (h3.1.spawn (by omega) hroom _ [((kk : Int) + 1, a, n, c)] (fun _ => valsN y (c4 kk)) hrp hcome ?_ ?_ ?_ ?_).mono ?_
    · intro k e
      simp only [Value.ownBlock, Option.some.injEq] at e
      subst e
      exact ⟨rel_new hsb, hlt⟩
    · intro p hp
      rw [List.mem_singleton.1 hp]
      refine ⟨?_, fun e => ?_⟩
      · have := Iz.own (l := valsN y (c4 kk)) (by rw [valsN_len]; exact ho3)
        exact this
      · rcases ho3.2 with ⟨e', -⟩ | ⟨g, c', cur, e', -⟩
        · simp only [Value.slice.injEq] at e'
          exact Prod.ext e'.2.1 e'.2.2
        · simp only [Value.slice.injEq] at e'
          dsimp only at e
          rw [e] at e'
          cases e'.1
    · intro p hp k e
      rw [List.mem_singleton.1 hp] at e
      have := ho3.lt k e
      exact ⟨rel_new this.1, this.2⟩
    · intro p _
      exact valsN_fit _ _
    · rintro e w' ⟨rfl, vals, own', r1, r2, -⟩
      refine .inl ⟨h3.2.1.room hok hroom, takeE gs fr, rfl, take_fresh h3.2.1, own', _, _, _, h3.turn r2 (r1.up (by omega)) (h3.2.1.take hok hroom)⟩
  · have hf : fr = [] := by
      by_cases c : fr = []
      · exact c
      · exact absurd (.inl c) hroom
    have hg : gs.length = 200 := by
      have := hok.2.2.1
      by_cases c : gs.length < 200
      · exact absurd (.inr c) hroom
      · omega
    refine (h3.1.spawn_full hf hg _ _ hrp hcome).mono ?_
    rintro e w' ⟨rfl, hb4⟩
    have h4 := h3.later hb4
    exact .inr ⟨h3.2.1.full (by omega) hf hg, rfl, _, gs, fr, C, h4.1.up (by omega), h4.2.1.more, h4.2.2⟩
theorem Sx.despawn (h : Sx w gw t W own v6 v7 gs fr C all onl all onl) (ht : t ≤ 300) (k : Nat) (k1 : k < all.length) (k2 : k < onl.length) :
    Calls Tryz.prog 31 #[.pointer (some ⟨gw, 0, none⟩), .agg #[.int .i64 (all[k].1 : Int), .int .i64 (all[k].2 : Int)]] W fun e w' => e = .returned (.int .i64 (if onl[k] then 0 else 41)) ∧ Hid (∃ own' gs' fr' C', Sx w gw (t + 1) w' own' v6 v7 gs' fr' C' all onl all (onl.set k false)) := by
  have hlv : (C ((all[k].1 : Int), (all[k].2 : Int))).isSome = onl[k] := by
    obtain ⟨vk, gp, gm, gt, q, T, _, _, _, _, h5, _⟩ := h.1
    rw [← h5]
    exact h.2.1.2.2.2.2.2.1 k k1 k2
  cases hk : onl[k] with
  | false =>
    rw [hk] at hlv
    refine (h.1.despawn_stale _ _ hlv).mono ?_
    rintro e w' ⟨rfl, hb⟩
    have h4 := h.later hb
    have es : onl.set k false = onl := by
      refine List.ext_getElem (by simp) (fun j j1 j2 => ?_)
      by_cases c : k = j
      · subst c
        rw [List.getElem_set_self, hk]
      · rw [List.getElem_set_ne c]
    rw [es]
    exact ⟨rfl, _, gs, fr, C, h4.1.up (by omega), h4.2.1.more, h4.2.2⟩
  | true =>
    obtain ⟨a1, a2, a3, a4, a5⟩ := h.2.1.at (by omega) k k1 k2 hk
    rw [hk] at hlv
    rw [← a2] at hlv ⊢
    refine (h.1.despawn (by omega) hlv a1 a3 a4).mono ?_
    rintro e w' ⟨rfl, own', r1, r2⟩
    exact ⟨rfl, own', _, _, _, h.turn r2 (r1.up (by omega)) (h.2.1.give (by omega) k k1 k2 hk)⟩
end
end Go.Proofs.YtafmiolehlagkaaGreat

/-
  World: rows that are the same.
-/
namespace Go.Proofs.YtafmiolehlagkaaGreat
open Go.RowKit
set_option maxRecDepth 100000
set_option maxHeartbeats 4000000 in
theorem same_vals (va vb : Value) (l : List Int) (w : World) (ha : Iz w va l) (hb : Iz w vb l) :
    Calls Tryz.prog 152 #[va, vb] w fun e w' => e = .returned (.bool true) ∧ Below w.heap.size w w' := by
  have HA := hide ha
  have HB := hide hb
  obtain ⟨ao, c, rfl, h1, h2, -⟩ := ha
  obtain ⟨ao', c', rfl, h1', h2', -⟩ := hb
  have hm : l.length ≤ maxLen := by omega
  unfold maxLen at hm
  go_enter Tryz.func152, Tryz.ntmps152
  go_wp2_with fail
  go_loopw [5] (fun v5 wr => ∃ i : Nat, i ≤ l.length ∧ v5 = .int .i64 (i : Int) ∧ Hid (Below w.heap.size w wr)) (fun v5 _ => l.length - (intOf v5).toNat)
  case atStart => exact ⟨0, Nat.zero_le _, rfl, Below.refl _ _⟩
  case round =>
    obtain ⟨i, hil, rfl, HW⟩ := hrel
    by_cases hlt : i < l.length
    · have t1 : (i : Int) < (l.length : Int) := by omega
      obtain ⟨_, _, e, -, -, h3⟩ := HA.out.later HW.out
      simp only [Value.slice.injEq] at e
      obtain ⟨rfl, -, rfl⟩ := e
      obtain ⟨g, o, rfl, c1⟩ := h3 i hlt
      obtain ⟨_, _, e, -, -, h4⟩ := HB.out.later HW.out
      simp only [Value.slice.injEq] at e
      obtain ⟨rfl, -, rfl⟩ := e
      obtain ⟨g', o', rfl, c2⟩ := h4 i hlt
      generalize l[i] = x at *
      clear h3 h4
      go_upto_region 6 with fail
      go_region_held3 (fun W => W.cell? ⟨g, o + i, none⟩ = some (.int .i64 x) ∧ W.cell? ⟨g', o' + i, none⟩ = some (.int .i64 x)) (go_keep) (fail)
      go_wp2_with fail
      go_roundw
      case rel => exact ⟨i + 1, by omega, by go_num, below_on HW.out (below_drew _)⟩
      case measure => simp [intOf]; omega
    · have t1 : ¬ (i : Int) < (l.length : Int) := by omega
      go_wp2_with fail
      go_ret
      exact ⟨rfl, HW.out⟩
theorem Rp.slice {w : World} {v : Value} {L : List Pt} (h : Rp w v L) : ∃ a c, v = .slice a L.length c ∧ L.length ≤ maxLen := by
  rcases h with ⟨rfl, rfl⟩ | ⟨g, o, c, rfl, h1, h2, -⟩
  · exact ⟨none, 0, rfl, Nat.zero_le _⟩
  · exact ⟨_, c, rfl, by omega⟩
theorem Rp.at {w : World} {a : Option Addr} {n c : Nat} {L : List Pt} (h : Rp w (.slice a n c) L) (i : Nat) (hi : i < L.length) : n = L.length ∧ ∃ g o, a = some ⟨g, o, none⟩ ∧ w.cell? ⟨g, o + i * 2, none⟩ = some (.int .i64 L[i].1) ∧ w.cell? ⟨g, o + i * 2 + 1, none⟩ = some (ptV L[i]) := by
  rcases h with ⟨-, rfl⟩ | ⟨g, o, c', e, -, -, h3⟩
  · simp at hi
  · simp only [Value.slice.injEq] at e
    obtain ⟨rfl, rfl, -⟩ := e
    obtain ⟨p1, p2⟩ := pz_at L i hi
    exact ⟨rfl, g, o, rfl, h3 _ _ p1, by rw [Nat.add_assoc]; exact h3 _ _ p2⟩
set_option maxHeartbeats 4000000 in
theorem same_parts (va vb : Value) (L L' : List Pt) (w : World) (ha : Rp w va L) (hb : Rp w vb L') (hl : L.length = L'.length) (hs : ∀ i (h : i < L.length) (h' : i < L'.length), L[i].1 = L'[i].1 ∧ ∃ l, Iz w (ptV L[i]) l ∧ Iz w (ptV L'[i]) l) :
    Calls Tryz.prog 81 #[va, vb] w fun e w' => e = .returned (.bool true) ∧ Below w.heap.size w w' := by
  obtain ⟨a, c, rfl, hm⟩ := ha.slice
  obtain ⟨a', c', rfl, -⟩ := hb.slice
  rw [← hl] at hb ⊢
  obtain ⟨n, hn⟩ : ∃ n, n = L.length := ⟨_, rfl⟩
  rw [← hn] at ha hb hm ⊢
  unfold maxLen at hm
  have HS : Hid (∀ i, i < n → ∀ W, Below w.heap.size w W → ∃ g o g' o' x s s', a = some ⟨g, o, none⟩ ∧ a' = some ⟨g', o', none⟩ ∧ W.cell? ⟨g, o + i * 2, none⟩ = some (.int .i64 x) ∧ W.cell? ⟨g, o + i * 2 + 1, none⟩ = some s ∧ W.cell? ⟨g', o' + i * 2, none⟩ = some (.int .i64 x) ∧ W.cell? ⟨g', o' + i * 2 + 1, none⟩ = some s' ∧ ∃ l, Iz W s l ∧ Iz W s' l) := by
    intro i hi W hW
    obtain ⟨-, g, o, e1, e2, e3⟩ := (ha.later hW).at i (by omega)
    obtain ⟨-, g', o', k1, k2, k3⟩ := (hb.later hW).at i (by omega)
    obtain ⟨x1, l, x2, x3⟩ := hs i (by omega) (by omega)
    exact ⟨g, o, g', o', _, _, _, e1, k1, e2, e3, by rw [x1]; exact k2, k3, l, x2.later hW, x3.later hW⟩
  clear ha hb hs hl hn
  go_enter Tryz.func81, Tryz.ntmps81
  go_wp2_with fail
  go_loopw [5] (fun v5 wr => ∃ i : Nat, i ≤ n ∧ v5 = .int .i64 (i : Int) ∧ Hid (Below w.heap.size w wr)) (fun v5 _ => n - (intOf v5).toNat)
  case atStart => exact ⟨0, Nat.zero_le _, rfl, Below.refl _ _⟩
  case round =>
    obtain ⟨i, hil, rfl, HW⟩ := hrel
    by_cases hlt : i < n
    · have t1 : (i : Int) < (n : Int) := by omega
      obtain ⟨g, o, g', o', x, s, s', rfl, rfl, c1, c2, d1, d2, l, I1, I2⟩ := HS.out i hlt wr HW.out
      have JS : Hid (∀ W, Below wr.heap.size wr W → Calls Tryz.prog 152 #[s, s'] W fun e w' => e = .returned (.bool true) ∧ Hid (Below wr.heap.size wr w') ∧ w'.cell? ⟨g, o + i * 2 + 1, none⟩ = some s ∧ w'.cell? ⟨g', o' + i * 2 + 1, none⟩ = some s' ∧ w'.cell? ⟨g, o + i * 2, none⟩ = some (.int .i64 x) ∧ w'.cell? ⟨g', o' + i * 2, none⟩ = some (.int .i64 x)) := fun W hW => by
        refine (same_vals s s' l W (I1.later hW) (I2.later hW)).mono ?_
        rintro e w' ⟨rfl, hb⟩
        have hb := below_on hW hb
        have hm := Mv.of_below hb (fun _ => False)
        exact ⟨rfl, hb, hm.cell c2 (fun e => e), hm.cell d2 (fun e => e), hm.cell c1 (fun e => e), hm.cell d1 (fun e => e)⟩
      clear I1 I2
      go_upto_region 6 with fail
      go_region_held3 (fun W => W.cell? ⟨g, o + i * 2 + 1, none⟩ = some s ∧ W.cell? ⟨g', o' + i * 2 + 1, none⟩ = some s') (go_keep) (first | (go_at_call 152; refine (JS.out _ (below_drew wr)).mono ?_; rintro e w5 ⟨rfl, HB5, c2', d2', c1', d1'⟩))
      clear c1 c2 d1 d2 JS
      go_wp2_with fail
      go_quiet (fail)
      go_wp2_with fail
      go_roundw
      case rel => exact ⟨i + 1, by omega, by go_num, below_on HW.out (below_on HB5.out (below_drawn _ _))⟩
      case measure => simp [intOf]; omega
    · have t1 : ¬ (i : Int) < (n : Int) := by omega
      go_wp2_with fail
      go_ret
      exact ⟨rfl, HW.out⟩
/-- Two rows that read alike. -/
def SameRow (W : World) (r r' : Rt) : Prop := entR r = entR r' ∧ ∃ L L', Rp W (rtV r) L ∧ Rp W (rtV r') L' ∧ L.length = L'.length ∧ ∀ i (h : i < L.length) (h' : i < L'.length), L[i].1 = L'[i].1 ∧ ∃ l, Iz W (ptV L[i]) l ∧ Iz W (ptV L'[i]) l
theorem SameRow.later {W W' : World} {r r' : Rt} (h : SameRow W r r') (hb : Below W.heap.size W W') : SameRow W' r r' := by
  obtain ⟨h1, L, L', h2, h3, h4, h5⟩ := h
  refine ⟨h1, L, L', h2.later hb, h3.later hb, h4, fun i i1 i2 => ?_⟩
  obtain ⟨x1, l, x2, x3⟩ := h5 i i1 i2
  exact ⟨x1, l, x2.later hb, x3.later hb⟩
theorem own_row_at {w : World} {B n c : Nat} {a : Option Addr} {R : List Rt} (h : w.ownsRow B 87 3 (.slice a n c) R.length (rz R)) (i : Nat) (hi : i < R.length) : ∃ g, a = some ⟨g, 0, none⟩ ∧ w.cell? ⟨g, i * 3, none⟩ = some (.int .i64 R[i].1) ∧ w.cell? ⟨g, i * 3 + 1, none⟩ = some (.int .i64 R[i].2.1) ∧ w.cell? ⟨g, i * 3 + 2, none⟩ = some (rtV R[i]) := by
  obtain ⟨g, c', e, -, -⟩ := own_form h (by omega)
  simp only [Value.slice.injEq] at e
  obtain ⟨rfl, rfl, rfl⟩ := e
  obtain ⟨p1, p2, p3⟩ := rz_at R i hi
  have k := fun j u hj => h.cells rfl j u hj
  refine ⟨g, rfl, ?_, ?_, ?_⟩
  · have := k _ _ p1
    rwa [add_at, Nat.zero_add] at this
  · have := k _ _ p2
    rwa [add_at, Nat.zero_add] at this
  · have := k _ _ p3
    rwa [add_at, Nat.zero_add] at this
set_option maxHeartbeats 4000000 in
theorem same_rows (va vb : Value) (R R' : List Rt) (B B' : Nat) (w : World) (ha : w.ownsRow B 87 3 va R.length (rz R)) (hb : w.ownsRow B' 87 3 vb R'.length (rz R')) (hl : R.length = R'.length) (hm : R.length ≤ 1000000) (hs : ∀ i (h : i < R.length) (h' : i < R'.length), SameRow w R[i] R'[i]) :
    Calls Tryz.prog 28 #[va, vb] w fun e w' => e = .returned (.bool true) ∧ Below w.heap.size w w' := by
  obtain ⟨a, c, rfl⟩ := own_len ha
  obtain ⟨a', c', rfl⟩ := own_len hb
  obtain ⟨n, hn⟩ : ∃ n, n = R.length := ⟨_, rfl⟩
  have HS : Hid (∀ i, i < n → ∀ W, Below w.heap.size w W → ∃ g g' x y s s', a = some ⟨g, 0, none⟩ ∧ a' = some ⟨g', 0, none⟩ ∧ W.cell? ⟨g, i * 3, none⟩ = some (.int .i64 x) ∧ W.cell? ⟨g, i * 3 + 1, none⟩ = some (.int .i64 y) ∧ W.cell? ⟨g, i * 3 + 2, none⟩ = some s ∧ W.cell? ⟨g', i * 3, none⟩ = some (.int .i64 x) ∧ W.cell? ⟨g', i * 3 + 1, none⟩ = some (.int .i64 y) ∧ W.cell? ⟨g', i * 3 + 2, none⟩ = some s' ∧ ∀ W', Below W.heap.size W W' → Calls Tryz.prog 81 #[s, s'] W' fun e w' => e = .returned (.bool true) ∧ Below W'.heap.size W' w') := by
    intro i hi W hW
    obtain ⟨g, rfl, e2, e3, e4⟩ := own_row_at (own_later ha hW) i (by omega)
    obtain ⟨g', rfl, k2, k3, k4⟩ := own_row_at (own_later hb hW) i (by omega)
    have hx := hs i (by omega) (by omega)
    have x1 := hx.1
    simp only [entR, Prod.mk.injEq] at x1
    refine ⟨g, g', _, _, _, _, rfl, rfl, e2, e3, e4, by rw [x1.1]; exact k2, by rw [x1.2]; exact k3, k4, fun W' hW' => ?_⟩
    obtain ⟨-, L, L', y1, y2, y3, y4⟩ := hx.later (below_on hW hW')
    exact same_parts _ _ L L' W' y1 y2 y3 y4
  rw [← hl]
  rw [← hn] at hm ⊢
  clear ha hb hs hl hn
  go_enter Tryz.func28, Tryz.ntmps28
  go_wp2_with fail
  go_loopw [5] (fun v5 wr => ∃ i : Nat, i ≤ n ∧ v5 = .int .i64 (i : Int) ∧ Hid (Below w.heap.size w wr)) (fun v5 _ => n - (intOf v5).toNat)
  case atStart => exact ⟨0, Nat.zero_le _, rfl, Below.refl _ _⟩
  case round =>
    obtain ⟨i, hil, rfl, HW⟩ := hrel
    by_cases hlt : i < n
    · have t1 : (i : Int) < (n : Int) := by omega
      obtain ⟨g, g', x, y, s, s', rfl, rfl, c1, c2, c3, d1, d2, d3, HJ⟩ := HS.out i hlt wr HW.out
      have JS : Hid (∀ W, Below wr.heap.size wr W → Calls Tryz.prog 81 #[s, s'] W fun e w' => e = .returned (.bool true) ∧ Hid (Below wr.heap.size wr w') ∧ w'.cell? ⟨g, i * 3 + 2, none⟩ = some s ∧ w'.cell? ⟨g', i * 3 + 2, none⟩ = some s' ∧ (w'.cell? ⟨g, i * 3, none⟩ = some (.int .i64 x) ∧ w'.cell? ⟨g, i * 3 + 1, none⟩ = some (.int .i64 y)) ∧ w'.cell? ⟨g', i * 3, none⟩ = some (.int .i64 x) ∧ w'.cell? ⟨g', i * 3 + 1, none⟩ = some (.int .i64 y)) := fun W hW => by
        refine (HJ W hW).mono ?_
        rintro e w' ⟨rfl, hb⟩
        have hb := below_on hW hb
        have hm := Mv.of_below hb (fun _ => False)
        exact ⟨rfl, hb, hm.cell c3 (fun e => e), hm.cell d3 (fun e => e), ⟨hm.cell c1 (fun e => e), hm.cell c2 (fun e => e)⟩, hm.cell d1 (fun e => e), hm.cell d2 (fun e => e)⟩
      clear HJ
      go_upto_region 6 with fail
      go_region_held3 (fun W => W.cell? ⟨g, i * 3 + 2, none⟩ = some s ∧ W.cell? ⟨g', i * 3 + 2, none⟩ = some s') (go_keep) (first | (go_at_call 81; refine (JS.out _ (below_drew wr)).mono ?_; rintro e w5 ⟨rfl, HB5, c3', d3', ⟨c1', c2'⟩, d1', d2'⟩))
      clear c1 c2 c3 d1 d2 d3 JS
      go_wp2_with fail
      go_quiet (fail)
      go_wp2_with fail
      go_roundw
      case rel => exact ⟨i + 1, by omega, by go_num, below_on HW.out (below_on HB5.out (below_drawn _ _))⟩
      case measure => simp [intOf]; omega
    · have t1 : ¬ (i : Int) < (n : Int) := by omega
      go_wp2_with fail
      go_ret
      exact ⟨rfl, HW.out⟩
end Go.Proofs.YtafmiolehlagkaaGreat

/-
  World: slices.DeleteFunc of parts: one kind is taken away.
-/
namespace Go.Proofs.YtafmiolehlagkaaGreat
open Go.RowKit
set_option maxRecDepth 100000
theorem pz_set : ∀ (l : List Pt) (i : Nat) (p : Pt), i < l.length → ((pz l).set (i * 2) (.int .i64 p.1)).set (i * 2 + 1) (ptV p) = pz (l.set i p)
  | x :: t, 0, p, _ => rfl
  | x :: t, i + 1, p, h => by
    have := pz_set t i p (by simpa using h)
    rw [show (i + 1) * 2 = i * 2 + 1 + 1 by omega]
    simpa [pz] using this
theorem pz_take : ∀ (l : List Pt) (n : Nat), (pz l).take (n * 2) = pz (l.take n)
  | [], n => by simp [pz]
  | p :: t, 0 => by simp [pz]
  | p :: t, n + 1 => by
    rw [show (n + 1) * 2 = n * 2 + 1 + 1 by omega]
    simpa [pz] using pz_take t n
theorem own_pset {w : World} {B g n c : Nat} {l : List Pt} (h : w.ownsRow B 32 2 (.slice (some ⟨g, 0, none⟩) n c) n (pz l)) (i : Nat) (p : Pt) (hi : i < l.length) : ((w.setCell ⟨g, i * 2, none⟩ (.int .i64 p.1)).setCell ⟨g, i * 2 + 1, none⟩ (ptV p)).ownsRow B 32 2 (.slice (some ⟨g, 0, none⟩) n c) n (pz (l.set i p)) := by
  rw [← pz_set l i p hi]
  exact ((h.stored (i * 2) _).1.stored (i * 2 + 1) _).1
theorem grown_two' (w : World) (g i j : Nat) (u v : Value) : w.grownBy ((w.setCell ⟨g, i, none⟩ u).setCell ⟨g, j, none⟩ v) (some g) := grown_two (grown_set _ _ _ _) (grown_set _ _ _ _)
theorem zero32 (w : World) : (zeroValue 32).run Tryz.prog w = .ok (.agg #[.int .i64 0, .slice none 0 0]) w := by kernel_rfl
theorem clear_part (w : World) (ty g o c : Nat) (h0 : (w.cell? ⟨g, o, none⟩).isSome = true) (h1 : (w.cell? ⟨g, o + 1, none⟩).isSome = true) (f0 : w.frozen? ⟨g, o, none⟩ = false) (f1 : w.frozen? ⟨g, o + 1, none⟩ = false) :
    (Builtin.clear_ #[33] ty #[.slice (some ⟨g, o, none⟩) 1 c]).run Tryz.prog w = .ok (.tuple #[]) (w.setCells g o [.int .i64 0, .slice none 0 0]) := by
  have hzc : (Builtin.zeroCells #[.int .i64 0, .slice none 0 0] 1).toList = [.int .i64 0, .slice none 0 0] := by kernel_rfl
  have hst := run_storeCells_cells (P := Tryz.prog) g o [.int .i64 0, .slice none 0 0] 0 w (by
    intro j hj
    match j, hj with
    | 0, _ => simpa using h0
    | 1, _ => simpa using h1) (by
    intro j hj
    match j, hj with
    | 0, _ => simpa using f0
    | 1, _ => simpa using f1) (by
    intro v hv
    simp at hv
    rcases hv with rfl | rfl <;> rfl)
  simp only [Nat.add_zero] at hst
  simp [Builtin.clear_, run_underlying Tryz.underlying33, Value.cells, hzc, hst]
theorem block_kind2 {w : World} {B e s n g : Nat} {e' : TypeId} {v : Value} {xs : List Value} {o : Array Value} (h : w.ownsRow B e s v n xs) (hg : w.heap[g]? = some (.cells o e' (0, 0))) (hne : e ≠ e') : v.ownBlock ≠ some g := fun hk => by
  rcases h.2 with ⟨rfl, -⟩ | ⟨g', c, cur, rfl, -, hg', -⟩
  · simp [Value.ownBlock] at hk
  · simp only [Value.ownBlock, Option.some.injEq] at hk
    subst hk
    rw [hg] at hg'
    simp only [Option.some.injEq, Obj.cells.injEq] at hg'
    exact hne hg'.2.1.symm
set_option maxHeartbeats 1000000 in
theorem isdel_any {w : World} {kb : Nat} {k x : Int} {a : Option Addr} {n c : Nat} (h : w.heap[kb]? = some (.cells #[.int .i64 k] 3 (0, 0))) :
    Calls Tryz.prog 79 #[.agg #[.int .i64 x, .slice a n c], .pointer (some ⟨kb, 0, none⟩)] w fun e w' => e = .returned (.bool (x == k)) ∧ Below w.heap.size w w' := by
  have hb := below_alloc w (.cells #[.int .i64 x, .slice a n c] 32)
  have hx := (hb.block kb (lt_of_block h)).trans h
  have c0 : (w.alloc (.cells #[.int .i64 x, .slice a n c] 32)).cell? ⟨kb, 0, none⟩ = some (.int .i64 k) := by rw [cell_of_row _ kb _ _ 3 (0, 0) hx]; rfl
  have HB := hide hb
  clear hb hx
  go_enter Tryz.func79, Tryz.ntmps79
  go_wp2_with fail
  go_ret
  exact ⟨rfl, HB.out⟩
set_option maxHeartbeats 2000000 in
theorem index_fn {w : World} {kb : Nat} {k : Int} {B : Nat} {a0 : Option Addr} {n c : Nat} {A Bq : List Pt} {p : Pt} (hk : w.heap[kb]? = some (.cells #[.int .i64 k] 3 (0, 0))) (ho : w.ownsRow B 32 2 (.slice a0 n c) n (pz (A ++ p :: Bq))) (hA : ∀ x ∈ A, x.1 ≠ k) (hp : p.1 = k) :
    Calls Tryz.prog 148 #[.slice a0 n c, .func (.func 79) #[] #[.pointer (some ⟨kb, 0, none⟩)]] w fun e w' => e = .returned (.int .i64 (A.length : Int)) ∧ Below w.heap.size w w' := by
  have hn : n = A.length + 1 + Bq.length := by
    have := ho.1
    rw [pz_len] at this
    simp at this
    omega
  obtain ⟨g, c', e, hc1, hc2⟩ := own_form ho (by omega)
  simp only [Value.slice.injEq] at e
  obtain ⟨rfl, -, rfl⟩ := e
  have HO := hide ho
  have HK := hide hk
  have HA := hide hA
  have HN := hide hn
  have HP := hide hp
  have hAn : A.length < n := by omega
  clear ho hk hA hn hp
  go_enter Tryz.func148, Tryz.ntmps148
  go_wp2_with fail
  go_loopw [8] (fun v8 W => ∃ i : Nat, i ≤ A.length ∧ v8 = .int .i64 (i : Int) ∧ Hid (Below w.heap.size w W)) (fun v8 _ => n - (intOf v8).toNat)
  case atStart => exact ⟨0, Nat.zero_le _, rfl, Below.refl _ _⟩
  case round =>
    obtain ⟨i, hi, rfl, HB⟩ := hrel
    have t1 : (i : Int) < (n : Int) := by omega
    have t0 : (0 : Int) ≤ (i : Int) := by omega
    have hlt : i < (A ++ p :: Bq).length := by have := HN.out; simp; omega
    have ho := own_later HO.out HB.out
    have e1 := ho.cellAt (i * 2) (by omega)
    have e2 := ho.cellAt (i * 2 + 1) (by omega)
    rw [(pz_at _ i hlt).1] at e1
    rw [(pz_at _ i hlt).2] at e2
    have hkb := (HB.out.block kb (lt_of_block HK.out)).trans HK.out
    have hcase : (i < A.length ∧ ((A ++ p :: Bq)[i].1 == k) = false) ∨ (i = A.length ∧ ((A ++ p :: Bq)[i].1 == k) = true) := by
      by_cases d : i < A.length
      · left
        refine ⟨d, ?_⟩
        rw [List.getElem_append_left d, beq_eq_false_iff_ne]
        exact HA.out _ (List.getElem_mem d)
      · right
        have : i = A.length := by omega
        subst this
        refine ⟨rfl, ?_⟩
        rw [List.getElem_append_right (Nat.le_refl _)]
        simp only [Nat.sub_self, List.getElem_cons_zero, HP.out, beq_self_eq_true]
    generalize (A ++ p :: Bq)[i] = x at *
    obtain ⟨xk, xa, xn, xc⟩ := x
    dsimp only at e1 e2 hcase
    have J := hide (isdel_any (x := xk) (a := xa) (n := xn) (c := xc) hkb)
    clear ho hkb
    rcases hcase with ⟨d, ht⟩ | ⟨d, ht⟩
    · rw [ht] at J
      clear ht
      go_wp2_with fail
      refine J.out.mono ?_
      rintro e w5 ⟨rfl, hb5⟩
      have HB5 := hide (below_on HB.out hb5)
      clear hb5 J
      go_wp2_with fail
      go_roundw
      case rel => exact ⟨i + 1, by omega, by go_num, HB5⟩
      case measure => simp [intOf]; omega
    · rw [ht] at J
      subst d
      clear ht
      go_wp2_with fail
      refine J.out.mono ?_
      rintro e w5 ⟨rfl, hb5⟩
      have HB5 := hide (below_on HB.out hb5)
      clear hb5 J
      go_wp2_with fail
      go_ret
      exact ⟨rfl, HB5.out⟩
/-- The list under way: m of those behind have moved up. -/
theorem del_step (A Bq : List Pt) (x : Pt) (m al : Nat) (hal : al = A.length) (hm : m < Bq.length) : (A ++ Bq.take m ++ x :: Bq.drop m).set (al + m) Bq[m] = A ++ Bq.take (m + 1) ++ Bq[m] :: Bq.drop (m + 1) ∧ ∃ h : al + 1 + m < (A ++ Bq.take m ++ x :: Bq.drop m).length, (A ++ Bq.take m ++ x :: Bq.drop m)[al + 1 + m] = Bq[m] := by
  subst hal
  have hl : (A ++ Bq.take m).length = A.length + m := by rw [List.length_append, List.length_take]; omega
  have hd : Bq.drop m = Bq[m] :: Bq.drop (m + 1) := List.drop_eq_getElem_cons hm
  refine ⟨?_, by simp; omega, ?_⟩
  · rw [List.set_append_right _ _ (by omega), hl, Nat.sub_self, List.set_cons_zero, ← hd, List.take_succ_eq_append_getElem hm]
    rw [List.append_assoc A, List.append_assoc A, List.append_assoc]
    rfl
  · rw [List.getElem_append_right (by omega)]
    have : A.length + 1 + m - (A ++ Bq.take m).length = 1 := by omega
    simp only [this, List.getElem_cons_succ, hd, List.getElem_cons_zero]
set_option maxHeartbeats 8000000 in
theorem delete_fn {w : World} {kb : Nat} {k : Int} {B : Nat} {a0 : Option Addr} {n c : Nat} {A Bq : List Pt} {p : Pt} (hk : w.heap[kb]? = some (.cells #[.int .i64 k] 3 (0, 0))) (ho : w.ownsRow B 32 2 (.slice a0 n c) n (pz (A ++ p :: Bq))) (hA : ∀ x ∈ A, x.1 ≠ k) (hB : ∀ x ∈ Bq, x.1 ≠ k) (hp : p.1 = k) :
    Calls Tryz.prog 77 #[.slice a0 n c, .func (.func 79) #[] #[.pointer (some ⟨kb, 0, none⟩)]] w fun e w' => ∃ v, e = .returned v ∧ v.ownBlock = (Value.slice a0 n c).ownBlock ∧ w'.ownsRow B 32 2 v (A ++ Bq).length (pz (A ++ Bq)) ∧ w.grownBy w' (Value.slice a0 n c).ownBlock := by
  have J1 := hide (index_fn hk ho hA hp)
  have hn : n = A.length + 1 + Bq.length := by
    have := ho.1
    rw [pz_len] at this
    simp at this
    omega
  obtain ⟨g, c', e, hc1, hc2⟩ := own_form ho (by omega)
  simp only [Value.slice.injEq] at e
  obtain ⟨rfl, -, rfl⟩ := e
  have hkg : kb ≠ g := fun e => block_kind2 ho hk (by decide) (by rw [e]; rfl)
  have H0 : Hid (∀ W, Below w.heap.size w W → W.ownsRow B 32 2 (.slice (some ⟨g, 0, none⟩) n c) n (pz (A ++ Bq.take 0 ++ p :: Bq.drop 0)) ∧ w.grownBy W (some g)) := fun W hW => ⟨by simpa using own_later ho hW, (grown_later hW).but _⟩
  have HK := hide hk
  have HB := hide hB
  have hn48 : n ≤ 9223372036854775807 := by omega
  have HN := hide hn
  have HKG := hide hkg
  have ta : ((A.length : Int) == -1) = false := by rw [beq_eq_false_iff_ne]; omega
  clear ho hk hA hB hn hp hkg
  go_enter Tryz.func77, Tryz.ntmps77
  go_wp2_with fail
  refine J1.out.mono ?_
  rintro e w1 ⟨rfl, hb1⟩
  have H1 := hide (H0.out w1 hb1)
  clear J1 H0 hb1
  have tl : IntKind.i64.wrap ((A.length : Int) + 1) = ((A.length + 1 : Nat) : Int) := by rw [IntKind.wrap_i64]; have := HN.out; omega
  obtain ⟨al, hal⟩ : ∃ x, x = A.length := ⟨_, rfl⟩
  rw [← hal] at ta tl ⊢
  have HAL := hide hal
  clear hal
  go_wp2_with fail
  go_loopw [5, 6] (fun v5 v6 W => ∃ (m : Nat) (x : Pt), m ≤ Bq.length ∧ v6 = .int .i64 ((al + 1 + m : Nat) : Int) ∧ v5 = .int .i64 ((al + m : Nat) : Int) ∧ Hid (W.ownsRow B 32 2 (.slice (some ⟨g, 0, none⟩) n c) n (pz (A ++ Bq.take m ++ x :: Bq.drop m)) ∧ w.grownBy W (some g))) (fun _ v6 _ => n - (intOf v6).toNat)
  case atStart => exact ⟨0, p, Nat.zero_le _, rfl, rfl, H1⟩
  case round =>
    obtain ⟨m, x, hml, rfl, rfl, HM⟩ := hrel
    by_cases hlt : m < Bq.length
    · have t1 : ((al + 1 + m : Nat) : Int) < (n : Int) := by have := HN.out; have := HAL.out; omega
      have t2 : (0 : Int) ≤ ((al + 1 + m : Nat) : Int) := by omega
      have t3 : ((al + m : Nat) : Int) < (n : Int) := by omega
      have t4 : (0 : Int) ≤ ((al + m : Nat) : Int) := by omega
      obtain ⟨ds, hi, de⟩ := del_step A Bq x m al HAL.out hlt
      obtain ⟨e1, e2⟩ := own_part HM.out.1 (al + 1 + m) hi
      have hset := own_pset HM.out.1 (al + m) Bq[m] (by omega)
      rw [de] at e1 e2
      have hne := HB.out _ (List.getElem_mem hlt)
      obtain ⟨j1, hj1⟩ : ∃ j, j = al + 1 + m := ⟨_, rfl⟩
      obtain ⟨j0, hj0⟩ : ∃ j, j = al + m := ⟨_, rfl⟩
      have t5 : IntKind.i64.wrap ((j1 : Int) + 1) = ((al + 1 + (m + 1) : Nat) : Int) := by rw [IntKind.wrap_i64]; omega
      have t6 : IntKind.i64.wrap ((j0 : Int) + 1) = ((al + (m + 1) : Nat) : Int) := by rw [IntKind.wrap_i64]; omega
      rw [← hj1] at e1 e2 t1 t2 ⊢
      rw [← hj0] at hset t3 t4 ⊢
      obtain ⟨z, hz'⟩ : ∃ z, Bq[m] = z := ⟨_, rfl⟩
      rw [hz'] at e1 e2 hset hne
      obtain ⟨zk, za, zn, zc'⟩ := z
      dsimp only [ptV] at e1 e2 hset hne
      have hkb := (HM.out.2.block kb (lt_of_block HK.out) (fun e => HKG.out (Option.some.inj e))).trans HK.out
      have hb5a := below_alloc wr (.cells #[.int .i64 zk, .slice za zn zc'] 32)
      have J := hide (isdel_any (x := zk) (a := za) (n := zn) (c := zc') ((hb5a.block kb (lt_of_block hkb)).trans hkb))
      rw [show (zk == k) = false by rw [beq_eq_false_iff_ne]; exact hne] at J
      obtain ⟨kc, hkc⟩ : ∃ q, q = wr.heap.size := ⟨_, rfl⟩
      have hxc : (wr.alloc (.cells #[.int .i64 zk, .slice za zn zc'] 32)).heap[kc]? = some (.cells #[.int .i64 zk, .slice za zn zc'] 32 (0, 0)) := by rw [hkc]; exact heap_alloc_new wr _
      obtain ⟨wa, hwa⟩ : ∃ X, X = wr.alloc (.cells #[.int .i64 zk, .slice za zn zc'] 32) := ⟨_, rfl⟩
      rw [← hwa] at J hxc hb5a
      have a0 : wa.cell? ⟨kc, 0, none⟩ = some (.int .i64 zk) := by rw [cell_of_row wa kc _ _ 32 (0, 0) hxc]; rfl
      have a1 : wa.cell? ⟨kc, 1, none⟩ = some (.slice za zn zc') := by rw [cell_of_row wa kc _ _ 32 (0, 0) hxc]; rfl
      have HXC := hide hxc
      have HBA := hide hb5a
      have HSET : Hid (∀ W, Below wr.heap.size wr W → (W.cell? ⟨g, j0 * 2, none⟩).isSome = true ∧ (W.cell? ⟨g, j0 * 2 + 1, none⟩).isSome = true ∧ W.frozen? ⟨g, j0 * 2, none⟩ = false ∧ W.frozen? ⟨g, j0 * 2 + 1, none⟩ = false ∧ ((W.setCell ⟨g, j0 * 2, none⟩ (.int .i64 zk)).setCell ⟨g, j0 * 2 + 1, none⟩ (.slice za zn zc')).ownsRow B 32 2 (.slice (some ⟨g, 0, none⟩) n c) n (pz (A ++ Bq.take (m + 1) ++ (zk, za, zn, zc') :: Bq.drop (m + 1))) ∧ w.grownBy ((W.setCell ⟨g, j0 * 2, none⟩ (.int .i64 zk)).setCell ⟨g, j0 * 2 + 1, none⟩ (.slice za zn zc')) (some g)) := fun W hW => by
        have ho := own_later HM.out.1 hW
        have hl : (pz (A ++ Bq.take m ++ x :: Bq.drop m)).length = n * 2 := ho.1
        have q0 := ho.cellAt (j0 * 2) (by omega)
        have q1 := ho.cellAt (j0 * 2 + 1) (by omega)
        refine ⟨by rw [q0, List.getElem?_eq_getElem (by omega)]; rfl, by rw [q1, List.getElem?_eq_getElem (by omega)]; rfl, ho.frozenAt _, ho.frozenAt _, ?_, ?_⟩
        · have := own_pset ho j0 (zk, za, zn, zc') (by rw [pz_len] at hl; omega)
          rw [hj0, ← hz', ds, hz'] at this
          rw [hj0]
          exact this
        · exact HM.out.2.andThen ((grown_later hW).but _ |>.andThen (grown_two' W g _ _ _ _) (fun q e => .inr e)) (fun q e => .inr e)
      have HJ1 := hide hj1
      have HJ0 := hide hj0
      clear hset hkb hne ds de hi HM hxc hb5a hz' hj1 hj0
      go_wp2_with fail
      rw [← hwa, ← hkc]
      clear hwa hkc e1 e2
      refine J.out.mono ?_
      rintro e w5 ⟨rfl, hb5⟩
      have b0 : w5.cell? ⟨kc, 0, none⟩ = some (.int .i64 zk) := (hb5.cell (p := ⟨kc, 0, none⟩) (lt_of_block HXC.out)).trans a0
      have b1 : w5.cell? ⟨kc, 1, none⟩ = some (.slice za zn zc') := (hb5.cell (p := ⟨kc, 1, none⟩) (lt_of_block HXC.out)).trans a1
      obtain ⟨s0, s1, s2, s3, s4, s5⟩ := HSET.out w5 (below_on HBA.out hb5)
      obtain ⟨u0, s0⟩ := Option.isSome_iff_exists.1 s0
      obtain ⟨u1, s1⟩ := Option.isSome_iff_exists.1 s1
      have HE : Hid (((w5.setCell ⟨g, j0 * 2, none⟩ (.int .i64 zk)).setCell ⟨g, j0 * 2 + 1, none⟩ (.slice za zn zc')).ownsRow B 32 2 (.slice (some ⟨g, 0, none⟩) n c) n (pz (A ++ Bq.take (m + 1) ++ (zk, za, zn, zc') :: Bq.drop (m + 1))) ∧ w.grownBy ((w5.setCell ⟨g, j0 * 2, none⟩ (.int .i64 zk)).setCell ⟨g, j0 * 2 + 1, none⟩ (.slice za zn zc')) (some g)) := ⟨s4, s5⟩
      clear s4 s5 HSET J a0 a1 hb5
      go_wp2_with fail
      go_roundw
      case rel => exact ⟨m + 1, (zk, za, zn, zc'), by omega, rfl, rfl, HE⟩
      case measure => have := HJ1.out; simp only [intOf]; omega
    · have hmn : m = Bq.length := by omega
      have t1 : ¬ ((al + 1 + m : Nat) : Int) < (n : Int) := by have := HN.out; have := HAL.out; omega
      have hho := HM.out.1
      rw [hmn, List.take_length, List.drop_length] at hho
      obtain ⟨j0, hj0⟩ : ∃ j, j = al + m := ⟨_, rfl⟩
      have hjn : j0 + 1 = n := by have := HN.out; have := HAL.out; omega
      have hl : (pz (A ++ Bq ++ [x])).length = n * 2 := hho.1
      have q0 := hho.cellAt (j0 * 2) (by omega)
      have q1 := hho.cellAt (j0 * 2 + 1) (by omega)
      have s0 : (wr.cell? ⟨g, j0 * 2, none⟩).isSome = true := by rw [q0, List.getElem?_eq_getElem (by omega)]; rfl
      have s1 : (wr.cell? ⟨g, j0 * 2 + 1, none⟩).isSome = true := by rw [q1, List.getElem?_eq_getElem (by omega)]; rfl
      have hcl := clear_part wr 0 g (j0 * 2) (c - j0) s0 s1 (hho.frozenAt _) (hho.frozenAt _)
      have hpz : (((pz (A ++ Bq ++ [x])).set (j0 * 2) (.int .i64 0)).set (j0 * 2 + 1) (.slice none 0 0)).take (j0 * 2) = pz (A ++ Bq) := by
        have e : j0 = (A ++ Bq).length := by rw [List.length_append]; have := HAL.out; omega
        rw [List.take_set_of_le (by omega), List.take_set_of_le (by omega), pz_take, e, List.take_left' rfl]
      have hset : (wr.setCells g (j0 * 2) [.int .i64 0, .slice none 0 0]).ownsRow B 32 2 (.slice (some ⟨g, 0, none⟩) j0 c) j0 (pz (A ++ Bq)) ∧ w.grownBy (wr.setCells g (j0 * 2) [.int .i64 0, .slice none 0 0]) (some g) := by
        have h2 := ((hho.stored (j0 * 2) (.int .i64 0)).1.stored (j0 * 2 + 1) (.slice none 0 0)).1
        have h3 := own_prefix h2 (n := j0) (by omega)
        rw [hpz] at h3
        exact ⟨h3, HM.out.2.andThen (grown_two' wr g _ _ _ _) (fun q e => .inr e)⟩
      have HE : Hid ((wr.setCells g (j0 * 2) [.int .i64 0, .slice none 0 0]).ownsRow B 32 2 (.slice (some ⟨g, 0, none⟩) j0 c) (A ++ Bq).length (pz (A ++ Bq)) ∧ w.grownBy (wr.setCells g (j0 * 2) [.int .i64 0, .slice none 0 0]) (some g)) := by
        have e : j0 = (A ++ Bq).length := by rw [List.length_append]; have := HAL.out; omega
        rw [← e]
        exact hset
      have hsub : n - j0 = 1 := by omega
      have t3 : ((j0 : Nat) : Int) ≤ (n : Int) := by omega
      have t4 : (0 : Int) ≤ ((j0 : Nat) : Int) := by omega
      have t5 : ((j0 : Nat) : Int) ≤ (c : Int) := by omega
      rw [← hj0]
      clear hho hl q0 q1 s0 s1 hpz hset HM hmn hj0
      go_wp2_with fail
      go_ret
      exact ⟨_, rfl, rfl, by simpa using HE.out.1, HE.out.2⟩
end Go.Proofs.YtafmiolehlagkaaGreat

/-
  World: Remove, where all is well.
-/
namespace Go.Proofs.YtafmiolehlagkaaGreat
open Go.RowKit
set_option maxRecDepth 100000
section
variable {w w' : World} {own : Nat → Nat} {gw gp gm gt M M' : Nat} {vk : Value} {ks : List Kind} {gs fr gs' fr' : List Nat} {f f' : Int × Int → Option Nat} {q q' : Nat → Option Nat} {T T' : Nat → Ts}
/-- Parts in memory of their own are put. -/
theorem pv_put {W W' : World} {own1 : Nat → Nat} {v : Value} {l : List Pt} {R : List (Nat × List Int)} (h1 : W.ownsRow w.heap.size 32 2 v l.length (pz l)) (h2 : Pv w.heap.size W l R) (h3 : Below w.heap.size w W) (hpg : Pg ks l) (hks : ks.length ≤ 12) (hk4 : ∀ x ∈ ks, x.2.length ≤ 4)
    (hX : Wx 0 W' own1 gw vk gp gm gt M ks gs fr f q T) (hK : Wk (rel own w 0) own1 W W') (hw : Wi ks f q T) (a b : Int) (hib : InB (a, b)) (hfn : f (a, b) = none) (hcnt : ∀ E : List (Int × Int), E.Nodup → (∀ e ∈ E, (f e).isSome = true) → E.length < 200) (hM : M ≤ 900000) :
    Calls Tryz.prog 67 #[.pointer (some ⟨gw, 0, none⟩), .agg #[.int .i64 a, .int .i64 b], v] W' fun e w' => e = .returned (.tuple #[]) ∧ ∃ (vals' : List Int) (g : Nat) (own' : Nat → Nat), Wx 0 w' own' gw vk gp gm gt (M + 3) ks gs fr (fun y => if y = (a, b) then some (setOf l) else f y) (fun y => if y = setOf l then some g else q y) (moreT q T (setOf l) (a, b) vals') ∧ Wk own own' w w' ∧ Wi ks (fun y => if y = (a, b) then some (setOf l) else f y) (fun y => if y = setOf l then some g else q y) (moreT q T (setOf l) (a, b) vals') ∧ vals'.length = fsum ks (setOf l) 1 ∧ ∀ r, r ∈ partsL ks (setOf l) 1 vals' ↔ r ∈ R := by
  have hnew : ∀ k, w.heap.size ≤ k → rel own w 0 k = 0 := fun k hk => rel_new hk
  have hm := hK.mv
  have o1 := hm.own h1 (fun k e e2 => e2 (hnew k (h1.lt k e).1))
  have hIzL : ∀ (i : Nat) (i1 : i < l.length) (i2 : i < R.length), Iz W' (ptV l[i]) R[i].2 := fun i i1 i2 => by
    have hb := (h2.2 i i1 i2).2
    exact Iz.own (hm.own hb (fun k e e2 => e2 (hnew k (hb.lt k e).1)))
  have hV : ∀ p ∈ l, Iz W' (ptV p) (valsOf W' (ptV p)) ∧ (p.2.1 = none → p.2.2 = (0, 0)) := fun p hp => by
    obtain ⟨i, hi, rfl⟩ := List.getElem_of_mem hp
    have i2 : i < R.length := by rw [← h2.1]; exact hi
    have := hIzL i hi i2
    refine ⟨by rw [this.vals]; exact this, fun e => ?_⟩
    rcases (h2.2 i hi i2).2.2 with ⟨e', -⟩ | ⟨g, c, cur, e', -⟩
    · simp only [ptV, Value.slice.injEq] at e'
      exact Prod.ext e'.2.1 e'.2.2
    · simp only [ptV, Value.slice.injEq] at e'
      rw [e] at e'
      cases e'.1
  refine (put_parts hX hw hks hk4 a b hib hfn hcnt hM v l (fun p => valsOf W' (ptV p)) (Rp.own o1) hpg hV).mono ?_
  rintro e w' ⟨rfl, vals', g, own', r1, r2, r3, r4, r5⟩
  refine ⟨rfl, vals', g, own', r1, ((Wk.later h3).trans hK).trans r2, r3, r4, fun r => ?_⟩
  rw [r5]
  constructor
  · rintro ⟨p, hp, rfl⟩
    obtain ⟨i, hi, rfl⟩ := List.getElem_of_mem hp
    have i2 : i < R.length := by rw [← h2.1]; exact hi
    rw [(hIzL i hi i2).vals, (h2.2 i hi i2).1]
    exact List.getElem_mem i2
  · intro hr
    obtain ⟨i, hi, rfl⟩ := List.getElem_of_mem hr
    have i1 : i < l.length := by rw [h2.1]; exact hi
    refine ⟨l[i], List.getElem_mem i1, ?_⟩
    rw [(hIzL i i1 hi).vals, (h2.2 i i1 hi).1]
    rfl
/-- One of the parts, and what is left without it. -/
theorem parts_less {B s k : Nat} {W : World} {row : List Int} {L : List Pt} (h : Pv B W L (partsL ks s 1 row)) (hr : row.length = fsum ks s 1) (hsb : Sb ks s) (_hks : ks.length ≤ 12) (hk1 : 1 ≤ k) (hk2 : k ≤ ks.length) (hb : s.testBit k = true) :
    ∃ (A Bq : List Pt) (p : Pt) (R : List (Nat × List Int)), L = A ++ p :: Bq ∧ (∀ x ∈ A, x.1 ≠ (k : Int)) ∧ (∀ x ∈ Bq, x.1 ≠ (k : Int)) ∧ p.1 = (k : Int) ∧ (∀ W', (∀ i (h1 : i < L.length) (h2 : i < (partsL ks s 1 row).length), W'.ownsRow B 2 1 (ptV L[i]) (partsL ks s 1 row)[i].2.length (zc (partsL ks s 1 row)[i].2)) → Pv B W' (A ++ Bq) R) ∧ (∀ r, r ∈ R ↔ r ∈ partsL ks s 1 row ∧ r.1 ≠ k) ∧ Pg ks (A ++ Bq) ∧ setOf (A ++ Bq) = s ^^^ 2 ^ k := by
  obtain ⟨r0, hr0, hrk⟩ := partsL_all ks s 1 row k hk1 (by omega) hb
  obtain ⟨i, hi, rfl⟩ := List.getElem_of_mem hr0
  have hpair := List.pairwise_iff_getElem.1 (partsL_pair ks s 1 row)
  have hlen := h.1
  have hiL : i < L.length := by omega
  have hkind : ∀ j (h1 : j < L.length) (h2 : j < (partsL ks s 1 row).length), L[j].1 = ((partsL ks s 1 row)[j].1 : Int) := fun j h1 h2 => (h.2 j h1 h2).1
  have hne : ∀ j (h1 : j < L.length), j ≠ i → L[j].1 ≠ (k : Int) := fun j h1 hji e => by
    have h2 : j < (partsL ks s 1 row).length := by omega
    rw [hkind j h1 h2] at e
    have e2 : (partsL ks s 1 row)[j].1 = (partsL ks s 1 row)[i].1 := by omega
    rcases Nat.lt_or_gt_of_ne hji with c | c
    · have := hpair j i h2 hi c; omega
    · have := hpair i j hi h2 c; omega
  have hsplit : L = L.take i ++ L[i] :: L.drop (i + 1) := by rw [List.getElem_cons_drop, List.take_append_drop]
  have hRs : partsL ks s 1 row = (partsL ks s 1 row).take i ++ (partsL ks s 1 row)[i] :: (partsL ks s 1 row).drop (i + 1) := by rw [List.getElem_cons_drop, List.take_append_drop]
  have hti : (L.take i).length = i := by rw [List.length_take]; omega
  have htR : ((partsL ks s 1 row).take i).length = i := by rw [List.length_take]; omega
  have hmemR : ∀ r, r ∈ (partsL ks s 1 row).take i ++ (partsL ks s 1 row).drop (i + 1) ↔ r ∈ partsL ks s 1 row ∧ r.1 ≠ k := fun r => by
    have hxk : ∀ x ∈ (partsL ks s 1 row).take i ++ (partsL ks s 1 row).drop (i + 1), x.1 ≠ k := fun x hx e => by
      rcases List.mem_append.1 hx with hx | hx
      · obtain ⟨j, hj, rfl⟩ := List.getElem_of_mem hx
        rw [htR] at hj
        rw [List.getElem_take] at e
        have := hpair j i (by omega) hi hj
        omega
      · obtain ⟨j, hj, rfl⟩ := List.getElem_of_mem hx
        rw [List.length_drop] at hj
        rw [List.getElem_drop] at e
        have := hpair i (i + 1 + j) hi (by omega) (by omega)
        omega
    constructor
    · intro hx
      refine ⟨?_, hxk r hx⟩
      rw [hRs]
      rcases List.mem_append.1 hx with hx | hx
      · exact List.mem_append_left _ hx
      · exact List.mem_append_right _ (List.mem_cons_of_mem _ hx)
    · rintro ⟨hx, hk⟩
      rw [hRs] at hx
      rcases List.mem_append.1 hx with hx | hx
      · exact List.mem_append_left _ hx
      · rcases List.mem_cons.1 hx with rfl | hx
        · exact absurd hrk hk
        · exact List.mem_append_right _ hx
  have hmemL : ∀ x ∈ L.take i ++ L.drop (i + 1), ∃ j, ∃ (h1 : j < L.length), L[j] = x ∧ j ≠ i := fun x hx => by
    rcases List.mem_append.1 hx with hx | hx
    · obtain ⟨j, hj, rfl⟩ := List.getElem_of_mem hx
      rw [hti] at hj
      exact ⟨j, by omega, by rw [List.getElem_take], by omega⟩
    · obtain ⟨j, hj, rfl⟩ := List.getElem_of_mem hx
      rw [List.length_drop] at hj
      exact ⟨i + 1 + j, by omega, by rw [List.getElem_drop], by omega⟩
  have hpv : ∀ W', (∀ i (h1 : i < L.length) (h2 : i < (partsL ks s 1 row).length), W'.ownsRow B 2 1 (ptV L[i]) (partsL ks s 1 row)[i].2.length (zc (partsL ks s 1 row)[i].2)) → Pv B W' (L.take i ++ L.drop (i + 1)) ((partsL ks s 1 row).take i ++ (partsL ks s 1 row).drop (i + 1)) := fun W' hW => by
    refine ⟨by simp [hlen], fun j j1 j2 => ?_⟩
    by_cases c : j < i
    · rw [List.getElem_append_left (by omega), List.getElem_append_left (by omega)]
      simp only [List.getElem_take]
      exact ⟨hkind j (by omega) (by omega), hW j (by omega) (by omega)⟩
    · rw [List.length_append, hti, List.length_drop] at j1
      rw [List.getElem_append_right (by omega), List.getElem_append_right (by omega)]
      simp only [List.getElem_drop, hti, htR]
      exact ⟨hkind _ (by omega) (by omega), hW _ (by omega) (by omega)⟩
  refine ⟨L.take i, L.drop (i + 1), L[i], _, hsplit, fun x hx e => ?_, fun x hx e => ?_, by rw [hkind i hiL hi, hrk], hpv, hmemR, ?_, ?_⟩
  · obtain ⟨j, j1, rfl, j3⟩ := hmemL x (List.mem_append_left _ hx)
    exact hne j j1 j3 e
  · obtain ⟨j, j1, rfl, j3⟩ := hmemL x (List.mem_append_right _ hx)
    exact hne j j1 j3 e
  · have hv := hpv W (fun i h1 h2 => (h.2 i h1 h2).2)
    have hln : ∀ x ∈ L.take i ++ L.drop (i + 1), ∃ r ∈ partsL ks s 1 row, x.1 = (r.1 : Int) ∧ x.2.2.1 = r.2.length := fun x hx => by
      obtain ⟨j, j1, rfl, j3⟩ := hmemL x hx
      refine ⟨_, List.getElem_mem (by omega : j < (partsL ks s 1 row).length), hkind j j1 (by omega), ?_⟩
      obtain ⟨ao, c, e⟩ := own_len (h.2 j j1 (by omega)).2
      simp only [ptV, Value.slice.injEq] at e
      exact e.2.1
    refine ⟨fun x hx => ?_, ?_⟩
    · obtain ⟨r, hr', e1, e2⟩ := hln x hx
      have m1 := partsL_mem ks s 1 row r hr'
      have m2 := partsL_len ks s 1 row hr r hr'
      refine ⟨by omega, by omega, ?_⟩
      rw [e2, m2, e1]
      simp
    · have hm : L.map (fun p => p.1.toNat - 1) = (partsL ks s 1 row).map (fun r => r.1 - 1) := by
        refine List.ext_getElem (by simp [hlen]) (fun j j1 j2 => ?_)
        simp only [List.length_map] at j1 j2
        simp only [List.getElem_map]
        rw [hkind j j1 j2]
        simp
      have hn : (L.map (fun p => p.1.toNat - 1)).Nodup := by
        rw [hm]
        refine List.pairwise_map.2 (List.Pairwise.imp_of_mem (fun {x y} hx hy hlt => ?_) (partsL_pair ks s 1 row))
        have a1 := partsL_mem ks s 1 row x hx
        have a2 := partsL_mem ks s 1 row y hy
        omega
      have hsub : (L.take i ++ L.drop (i + 1)).Sublist L := by
        conv => rhs; rw [hsplit]
        exact List.Sublist.append (List.Sublist.refl _) (List.sublist_cons_self _ _)
      exact hn.sublist (hsub.map _)
  · refine Nat.eq_of_testBit_eq (fun j => ?_)
    rw [setOf_bit, Nat.testBit_xor, Nat.testBit_two_pow, Bool.eq_iff_iff]
    have h1 : ((L.take i ++ L.drop (i + 1)).any fun p => p.1.toNat == j) = true ↔ s.testBit j = true ∧ j ≠ k := by
      rw [List.any_eq_true]
      constructor
      · rintro ⟨x, hx, e⟩
        obtain ⟨m, m1, rfl, m3⟩ := hmemL x hx
        have hk' := hkind m m1 (by omega)
        have e' := beq_iff_eq.1 e
        have e2 : (partsL ks s 1 row)[m].1 = j := by omega
        refine ⟨by rw [← e2]; exact (partsL_mem ks s 1 row _ (List.getElem_mem _)).2.2, fun e3 => hne m m1 m3 (by omega)⟩
      · rintro ⟨hj, hjk⟩
        have := hsb j hj
        obtain ⟨r, hr', e⟩ := partsL_all ks s 1 row j this.1 (by omega) hj
        obtain ⟨m, m1, rfl⟩ := List.getElem_of_mem hr'
        have hm1 : m < L.length := by omega
        have hmi : m ≠ i := fun e' => by subst e'; omega
        refine ⟨L[m], ?_, by rw [hkind m hm1 m1, e]; simp⟩
        rcases Nat.lt_or_gt_of_ne hmi with c | c
        · refine List.mem_append_left _ ?_
          have := List.getElem_mem (l := L.take i) (n := m) (by omega)
          rwa [List.getElem_take] at this
        · refine List.mem_append_right _ ?_
          have := List.getElem_mem (l := L.drop (i + 1)) (n := m - (i + 1)) (by rw [List.length_drop]; omega)
          rw [List.getElem_drop] at this
          have e' : i + 1 + (m - (i + 1)) = m := by omega
          simpa only [e'] using this
    rw [h1]
    by_cases c : k = j
    · subst c
      simp [hb]
    · have : ¬ j = k := fun e => c e.symm
      simp [c, this]
end
end Go.Proofs.YtafmiolehlagkaaGreat

/-
  World: where a part lies.
-/
namespace Go.Proofs.YtafmiolehlagkaaGreat
open Go.RowKit
set_option maxRecDepth 100000
theorem fsum_append : ∀ (a b : List Kind) (s k : Nat), fsum (a ++ b) s k = fsum a s k + fsum b s (k + a.length)
  | [], b, s, k => by simp [fsum]
  | x :: t, b, s, k => by
    rw [List.cons_append]
    simp only [fsum, List.length_cons]
    rw [fsum_append t b s (k + 1), show k + 1 + t.length = k + (t.length + 1) by omega]
    omega
theorem fsum_take (ks : List Kind) (s j : Nat) (hj : j < ks.length) : fsum (ks.take (j + 1)) s 1 = fsum (ks.take j) s 1 + (if s.testBit (j + 1) then ks[j].2.length else 0) := by
  rw [List.take_succ_eq_append_getElem hj, fsum_append]
  have : (ks.take j).length = j := by rw [List.length_take]; omega
  rw [this, show 1 + j = j + 1 by omega]
  simp [fsum]
theorem fsum_take_le (ks : List Kind) (s j : Nat) : fsum (ks.take j) s 1 ≤ fsum ks s 1 := by
  have h := fsum_append (ks.take j) (ks.drop j) s 1
  rw [List.take_append_drop] at h
  omega
section
variable {w w' : World} {own : Nat → Nat} {gw gp gm gt M M' : Nat} {vk : Value} {ks : List Kind} {gs fr gs' fr' : List Nat} {f f' : Int × Int → Option Nat} {q q' : Nat → Option Nat} {T T' : Nat → Ts}
set_option maxHeartbeats 8000000 in
theorem place_any (h : Wx 0 w own gw vk gp gm gt M ks gs fr f q T) (a b : Int) (hib : InB (a, b)) (hks : ks.length ≤ 12) (s g i : Nat) (hf : f (a, b) = some s) (hq : q s = some g) (hs : s < 8192) (hi : i < (T s).1.length) (hx : (T s).1[i] = (a, b)) (h48 : fsum ks s 1 ≤ 48) (k : Nat) (hk1 : 1 ≤ k) (hk2 : k ≤ ks.length) :
    Calls Tryz.prog 88 #[.pointer (some ⟨gw, 0, none⟩), .agg #[.int .i64 a, .int .i64 b], .int .i64 (k : Int)] w fun e w' => e = .returned (.tuple #[.pointer (some ⟨g, 0, none⟩), .int .i64 (i : Int), .int .i64 ((fsum (ks.take (k - 1)) s 1 : Nat) : Int)]) ∧ Below w.heap.size w w' := by
  obtain ⟨w1, hw1⟩ : ∃ X, X = w.alloc (.cells #[.int .i64 a, .int .i64 b] 29) := ⟨_, rfl⟩
  have B1 : Hid (Below w.heap.size w w1) := hw1 ▸ below_alloc w _
  have hx1 : w1.heap[w.heap.size]? = some (.cells #[.int .i64 a, .int .i64 b] 29 (0, 0)) := by rw [hw1]; exact heap_alloc_new w _
  have HW : Hid (∀ W, Below w1.heap.size w1 W → (Instr.lookup 106 (.map (some gm)) (.agg #[.int .i64 a, .int .i64 b]) false).run Tryz.prog W = .ok (.int .i64 (s : Int)) W ∧ (Instr.lookup 107 (.map (some gt)) (.int .i64 (s : Int)) false).run Tryz.prog W = .ok (.pointer (some ⟨g, 0, none⟩)) W ∧ W.cell? ⟨gw, 2, none⟩ = some (.map (some gm)) ∧ W.cell? ⟨gw, 3, none⟩ = some (.map (some gt)) ∧ W.cell? ⟨w.heap.size, 0, none⟩ = some (.int .i64 a) ∧ W.cell? ⟨w.heap.size, 1, none⟩ = some (.int .i64 b)) := fun W hW => by
    have hx := h.later (below_on B1.out hW)
    exact ⟨hx.mp.look1 a b hib hf, hx.mq.look1 (by omega) hq, hx.cells.2.2.1, hx.cells.2.2.2, (kx_cells hx1 hW).1, (kx_cells hx1 hW).2⟩
  have JF : Hid (∀ W, Below w1.heap.size w1 W → Calls Tryz.prog 150 #[.pointer (some ⟨g, 0, none⟩), .agg #[.int .i64 a, .int .i64 b]] W fun e w' => e = .returned (.int .i64 (i : Int)) ∧ Below W.heap.size W w') := fun W hW => by
    obtain ⟨n, hn, ht⟩ := (h.later (below_on B1.out hW)).tb hq
    refine (find_any ht a b hib).mono ?_
    rintro e w' ⟨r, rfl, hr, hb2⟩
    have hr2 : r = (i : Int) := by
      rcases hr with ⟨-, hr⟩ | ⟨j, hj, rfl, hr⟩
      · exact absurd (hx ▸ List.getElem_mem hi) hr
      · obtain ⟨lab, vr, gm', vc, cs, f', hm, hix, -⟩ := ht
        rw [hix.inj hj hi (hr.trans hx.symm)]
    exact ⟨ret_int hr2, hb2⟩
  have JFd : Hid (∀ (W : World) (j : Nat) (_ : Below w1.heap.size w1 W) (h1 : 1 ≤ j) (h2 : j ≤ ks.length), Calls Tryz.prog 89 #[.pointer (some ⟨gw, 0, none⟩), .int .i64 (j : Int)] W fun e w' => e = .returned (.int .i64 ((ks[j - 1]'(by omega)).2.length : Int)) ∧ w' = W) := fun W j hW h1 h2 => by
    have hx := h.later (below_on B1.out hW)
    exact fields_any hx.2.2.1 hx.2.2.2.1.kr j h1 h2 hks
  clear h hf hq hi hx hx1 hib
  go_enter Tryz.func88, Tryz.ntmps88
  go_upto_region 1 with fail
  rw [← hw1]
  obtain ⟨kx, hkx⟩ : ∃ k, k = w.heap.size := ⟨_, rfl⟩
  rw [← hkx] at HW ⊢
  clear hkx hw1
  obtain ⟨hlk, -, c2, c3, p0, p1⟩ := HW.out w1.drew (below_drew w1)
  refine wp_region_noPanic ?_
  refine wp_region_late (J := fun i => i != 99) (S := fun W => W.cell? ⟨gw, 2, none⟩ = some (.map (some gm)) ∧ W.cell? ⟨kx, 0, none⟩ = some (.int .i64 a) ∧ W.cell? ⟨kx, 1, none⟩ = some (.int .i64 b)) (by kernel_rfl) ⟨c2, p0, p1⟩ (fun hHeld => ?_)
  refine' wpAnyJ_takeW (i := 0) (oi := { dst := some 11, op := Op.move (Operand.tmp 0), type := 37, pos := "world.go:183", after := #[], guard := none }) (v := _) rfl (by kernel_rfl) (by kernel_rfl) (by kernel_rfl) (fun _ _ _ h => h) (Or.inl ⟨by rfl, ?hyA1⟩) ?reA1
  case hyA1 => (intro W hSw; (try dsimp only at hSw); go_simp; try with_reducible rfl)
  try simp only [Act.put, List.setIfInBounds_toArray, List.set_cons_zero, List.set_cons_succ]
  refine' wpAnyJ_takeW (i := 1) (oi := { dst := some 12, op := Op.nilCheck (Operand.tmp 11), type := 0, pos := "world.go:183", after := #[{ on := 0, ground := Ground.data }], guard := none }) (v := _) rfl (by kernel_rfl) (by kernel_rfl) (by kernel_rfl) (fun _ _ _ h => h) (Or.inl ⟨by rfl, ?hyA2⟩) ?reA2
  case hyA2 => (intro W hSw; (try dsimp only at hSw); go_simp; try with_reducible rfl)
  try simp only [Act.put, List.setIfInBounds_toArray, List.set_cons_zero, List.set_cons_succ]
  refine' wpAnyJ_takeW (i := 2) (oi := { dst := some 13, op := Op.fieldAddr 109 (Operand.tmp 12) 2, type := 0, pos := "world.go:183", after := #[{ on := 1, ground := Ground.data }], guard := none }) (v := _) rfl (by kernel_rfl) (by kernel_rfl) (by kernel_rfl) (fun _ _ _ h => h) (Or.inl ⟨by rfl, ?hyA3⟩) ?reA3
  case hyA3 => (intro W hSw; (try dsimp only at hSw); go_simp; try with_reducible rfl)
  try simp only [Act.put, List.setIfInBounds_toArray, List.set_cons_zero, List.set_cons_succ]
  refine' wpAnyJ_take (i := 3) (oi := { dst := some 14, op := Op.load 106 (Operand.tmp 13), type := 106, pos := "world.go:183", after := #[{ on := 2, ground := Ground.data }], guard := none }) (v := _) rfl (by kernel_rfl) (by kernel_rfl) (by kernel_rfl) (by kernel_rfl) (fun _ _ _ h => h) (Or.inl ⟨by rfl, ?hyA4⟩) (by assumption) ?reA4
  case hyA4 => (intro W hSw; (try dsimp only at hSw); go_simp; try with_reducible rfl)
  try simp only [Act.put, List.setIfInBounds_toArray, List.set_cons_zero, List.set_cons_succ]
  refine' wpAnyJ_take (i := 4) (oi := { dst := some 15, op := Op.load 29 (Operand.tmp 4), type := 29, pos := "world.go:183", after := #[], guard := none }) (v := _) rfl (by kernel_rfl) (by kernel_rfl) (by kernel_rfl) (by kernel_rfl) (fun _ _ _ h => h) (Or.inl ⟨by rfl, ?hyA5⟩) (by assumption) ?reA5
  case hyA5 => (intro W hSw; (try dsimp only at hSw); go_simp; try with_reducible rfl)
  try simp only [Act.put, List.setIfInBounds_toArray, List.set_cons_zero, List.set_cons_succ]
  refine wpAnyJ_ready (rs := [5]) (by kernel_rfl) (by simp) ?_
  refine AllReadyJ.cons (o := { dst := some 16, op := Op.lookup 106 (Operand.tmp 14) (Operand.tmp 15) false, type := 3, pos := "world.go:183", after := #[{ on := 3, ground := Ground.data }, { on := 4, ground := Ground.data }], guard := none }) rfl (fun K hK => ?_) AllReadyJ.nil
  go_simp
  refine hK.out _ _ (fun _ _ => ⟨c2, p0, p1⟩) ?_
  clear hK K
  try simp only [Act.put, List.setIfInBounds_toArray, List.set_cons_zero, List.set_cons_succ]
  refine' wpAnyJ_takeW (i := 6) (oi := { dst := some 9, op := Op.assign (Operand.tmp 16), type := 3, pos := "world.go:183", after := #[{ on := 5, ground := Ground.data }, { on := 0, ground := Ground.phase }, { on := 1, ground := Ground.phase }, { on := 2, ground := Ground.phase }, { on := 3, ground := Ground.phase }, { on := 4, ground := Ground.phase }, { on := 5, ground := Ground.phase }], guard := none }) (v := _) rfl (by kernel_rfl) (by kernel_rfl) (by kernel_rfl) (fun _ _ _ h => h) (Or.inl ⟨by rfl, ?hyA6⟩) ?reA6
  case hyA6 => (intro W hSw; (try dsimp only at hSw); go_simp; try with_reducible rfl)
  try simp only [Act.put, List.setIfInBounds_toArray, List.set_cons_zero, List.set_cons_succ]
  refine wpAnyJ_done (by kernel_rfl) ?_ _
  refine NoPanic.normal ?_
  clear hlk c2 c3 p0 p1
  have B2 : Hid (Below w1.heap.size w1 w1.drew) := below_drew w1
  go_wp2_with fail
  go_loopw [8, 10] (fun v8 v10 W => ∃ j : Nat, j ≤ k - 1 ∧ v10 = .int .i64 ((j + 1 : Nat) : Int) ∧ v8 = .int .i64 ((fsum (ks.take j) s 1 : Nat) : Int) ∧ Hid (Below w1.heap.size w1 W)) (fun _ v10 _ => k - (intOf v10).toNat)
  case atStart => exact ⟨0, Nat.zero_le _, rfl, rfl, B2⟩
  case round =>
    obtain ⟨j, hjk, rfl, rfl, HB⟩ := hrel
    obtain ⟨F, hF⟩ : ∃ F, F = fsum (ks.take j) s 1 := ⟨_, rfl⟩
    have hFl : F ≤ 48 := by rw [hF]; exact Nat.le_trans (fsum_take_le ks s j) h48
    by_cases hlt : j < k - 1
    · have t1 : ((j + 1 : Nat) : Int) < (k : Int) := by omega
      have hst := fsum_take ks s j (by omega)
      rw [← hF] at hst ⊢
      have hst2 : fsum (ks.take (j + 1)) s 1 ≤ 48 := Nat.le_trans (fsum_take_le ks s (j + 1)) h48
      have JH := hide (has_any s (j + 1) wr hs (by omega))
      have JD := hide (JFd.out wr (j + 1) HB.out (by omega) (by omega))
      simp only [Nat.add_sub_cancel] at JD
      generalize (ks[j]'(by omega)).2.length = m at *
      obtain ⟨K, hK⟩ : ∃ K : Int, K = ((j + 1 : Nat) : Int) := ⟨_, rfl⟩
      have t3 : IntKind.i64.wrap (K + 1) = ((j + 1 + 1 : Nat) : Int) := by rw [IntKind.wrap_i64]; omega
      rw [← hK] at t1 JH JD ⊢
      have HST := hide hst
      have HST2 := hide hst2
      have HKK := hide hK
      clear hst hst2 hK hF
      cases hbt : s.testBit (j + 1) with
      | false =>
        rw [hbt] at JH HST
        clear hbt JD
        go_wp2_with fail
        refine JH.out.mono ?_
        rintro e w' ⟨rfl, rfl⟩
        go_wp2_with fail
        go_roundw
        case rel => exact ⟨j + 1, by omega, rfl, by rw [HST.out]; simp, HB⟩
        case measure => have := HKK.out; simp only [intOf]; omega
      | true =>
        rw [hbt] at JH HST
        clear hbt
        have hs2 := HST.out
        simp only [if_true] at hs2
        have t4 : IntKind.i64.wrap ((F : Int) + (m : Int)) = ((fsum (ks.take (j + 1)) s 1 : Nat) : Int) := by rw [IntKind.wrap_i64]; have := HST2.out; omega
        clear hs2
        go_wp2_with fail
        refine JH.out.mono ?_
        rintro e w' ⟨rfl, rfl⟩
        go_wp2_with fail
        refine JD.out.mono ?_
        rintro e w' ⟨rfl, rfl⟩
        go_wp2_with fail
        go_roundw
        case rel => exact ⟨j + 1, by omega, rfl, rfl, HB⟩
        case measure => have := HKK.out; simp only [intOf]; omega
    · obtain rfl : j = k - 1 := by omega
      have t1 : ¬ ((k - 1 + 1 : Nat) : Int) < (k : Int) := by omega
      obtain ⟨-, hlq, c2, c3, p0, p1⟩ := HW.out wr HB.out
      have J := hide (JF.out wr HB.out)
      rw [← hF]
      have HFF := hide hF
      clear hF
      go_wp2_with fail
      refine J.out.mono ?_
      rintro e w9 ⟨rfl, hb9⟩
      have HB9 := hide (below_on B1.out (below_on HB.out hb9))
      clear hb9 J
      go_wp2_with fail
      go_ret3
      exact ⟨by rw [← HFF.out]; rfl, HB9.out⟩
end
end Go.Proofs.YtafmiolehlagkaaGreat

/-
  World: Set, where all is well.
-/
namespace Go.Proofs.YtafmiolehlagkaaGreat
open Go.RowKit
set_option maxRecDepth 100000
/-- Columns of which j, from col on, have the first numbers of vals at row i. -/
def setC (cols : List (List Int)) (col i : Nat) (vals : List Int) : Nat → List (List Int)
  | 0 => cols
  | j + 1 => (setC cols col i vals j).set (col + j) (((setC cols col i vals j).getD (col + j) []).set i (vals.getD j 0))
theorem setC_len (cols : List (List Int)) (col i : Nat) (vals : List Int) : ∀ j, (setC cols col i vals j).length = cols.length
  | 0 => rfl
  | j + 1 => by simp [setC, setC_len cols col i vals j]
theorem setC_at (cols : List (List Int)) (col i : Nat) (vals : List Int) : ∀ (j m : Nat), col + j ≤ cols.length → m < cols.length → (setC cols col i vals j).getD m [] = if col ≤ m ∧ m < col + j then (cols.getD m []).set i (vals.getD (m - col) 0) else cols.getD m []
  | 0, m, _, _ => by
    rw [if_neg (by omega)]
    rfl
  | j + 1, m, h1, h2 => by
    have hl := setC_len cols col i vals j
    have ih := fun m h => setC_at cols col i vals j m (by omega) h
    rw [setC, List.getD_eq_getElem?_getD, List.getElem?_set]
    by_cases c : col + j = m
    · subst c
      rw [if_pos rfl, if_pos (by omega), ih _ h2, if_neg (by omega), if_pos (by omega), Option.getD_some, show col + j - col = j by omega]
    · rw [if_neg c, ← List.getD_eq_getElem?_getD, ih m h2]
      by_cases d : col ≤ m ∧ m < col + j
      · rw [if_pos d, if_pos (by omega)]
      · rw [if_neg d, if_neg (by omega)]
theorem getD_getElem {α : Type} (l : List α) (d : α) (i : Nat) (h : i < l.length) : l.getD i d = l[i] := by
  rw [List.getD_eq_getElem?_getD, List.getElem?_eq_getElem h]
  rfl
theorem setC_cols {cols : List (List Int)} {col i n : Nat} {vals : List Int} {N : Nat} (hc : ∀ c ∈ cols, c.length = N) (hn : col + n ≤ cols.length) : ∀ c ∈ setC cols col i vals n, c.length = N := fun c hm => by
  obtain ⟨m, hm1, rfl⟩ := List.getElem_of_mem hm
  have hm2 := hm1
  rw [setC_len] at hm2
  rw [← getD_getElem _ [] m hm1, setC_at _ _ _ _ _ _ hn hm2, getD_getElem _ _ _ hm2]
  have := hc _ (List.getElem_mem hm2)
  split
  · rw [List.length_set]; exact this
  · exact this
theorem row_setC_other {cols : List (List Int)} {col i n j : Nat} {vals : List Int} (hn : col + n ≤ cols.length) (hj : j ≠ i) : rowOf (setC cols col i vals n) j = rowOf cols j := by
  refine row_ext (setC_len _ _ _ _ _) (fun m m1 m2 => ?_)
  rw [← getD_getElem _ [] m m1, setC_at _ _ _ _ _ _ hn m2, getD_getElem _ _ _ m2]
  split
  · rw [List.getD_eq_getElem?_getD, List.getElem?_set_ne (Ne.symm hj), ← List.getD_eq_getElem?_getD]
  · rfl
theorem row_setC_self {cols : List (List Int)} {col i n N : Nat} {vals : List Int} (hc : ∀ c ∈ cols, c.length = N) (hi : i < N) (hn : col + n ≤ cols.length) (hv : vals.length = n) : rowOf (setC cols col i vals n) i = (rowOf cols i).take col ++ vals ++ (rowOf cols i).drop (col + n) := by
  refine List.ext_getElem (by simp [rowOf_len, setC_len, hv]; omega) (fun m m1 m2 => ?_)
  rw [rowOf_len, setC_len] at m1
  have hm1 : m < (setC cols col i vals n).length := by rw [setC_len]; exact m1
  have hl := hc _ (List.getElem_mem m1)
  have e1 : (rowOf (setC cols col i vals n) i)[m]'(by rw [rowOf_len]; exact hm1) = ((setC cols col i vals n).getD m []).getD i 0 := by
    rw [getD_getElem _ [] m hm1]
    simp [rowOf]
  have e2 : ∀ (h : m < (rowOf cols i).length), (rowOf cols i)[m] = cols[m].getD i 0 := fun h => by simp [rowOf]
  rw [e1, setC_at _ _ _ _ _ _ hn m1, getD_getElem _ _ _ m1]
  by_cases d : col ≤ m ∧ m < col + n
  · rw [if_pos d]
    have ht : ((rowOf cols i).take col).length = col := by rw [List.length_take, rowOf_len]; omega
    rw [List.getElem_append_left (by rw [List.length_append, ht]; omega), List.getElem_append_right (by omega)]
    rw [List.getD_eq_getElem?_getD, List.getElem?_set_self (by omega), Option.getD_some]
    simp only [ht]
    rw [getD_getElem _ _ _ (by omega)]
  · rw [if_neg d]
    have ht : ((rowOf cols i).take col).length = col := by rw [List.length_take, rowOf_len]; omega
    by_cases c : m < col
    · rw [List.getElem_append_left (by rw [List.length_append, ht]; omega), List.getElem_append_left (by omega), List.getElem_take, e2]
    · rw [List.getElem_append_right (by rw [List.length_append, ht]; omega), List.getElem_drop]
      simp only [List.length_append, ht, hv]
      have : col + n + (m - (col + n)) = m := by omega
      simp only [this]
      rw [e2]
theorem partsL_cons (a : Kind) (t : List Kind) (s k : Nat) (v : List Int) : partsL (a :: t) s k v = if s.testBit k then (k, v.take a.2.length) :: partsL t s (k + 1) (v.drop a.2.length) else partsL t s (k + 1) v := rfl
theorem partsL_append : ∀ (A B : List Kind) (s k : Nat) (x z : List Int), x.length = fsum A s k → partsL (A ++ B) s k (x ++ z) = partsL A s k x ++ partsL B s (k + A.length) z
  | [], B, s, k, x, z, h => by
    simp [fsum] at h
    subst h
    simp [partsL]
  | a :: t, B, s, k, x, z, h => by
    rw [List.cons_append, partsL_cons, partsL_cons]
    unfold fsum at h
    by_cases c : s.testBit k = true
    · rw [if_pos c] at h
      rw [if_pos c, if_pos c, List.take_append_of_le_length (by omega), List.drop_append_of_le_length (by omega), partsL_append t B s (k + 1) _ z (by rw [List.length_drop]; omega), List.length_cons, List.cons_append, show k + 1 + t.length = k + (t.length + 1) by omega]
    · rw [if_neg c] at h
      rw [if_neg c, if_neg c, partsL_append t B s (k + 1) x z (by omega), List.length_cons, show k + 1 + t.length = k + (t.length + 1) by omega]
/-- A part's numbers are others. -/
theorem parts_set {ks : List Kind} {s k : Nat} {old vals : List Int} (hk1 : 1 ≤ k) (hk2 : k ≤ ks.length) (hb : s.testBit k = true) (ho : old.length = fsum ks s 1) (hv : vals.length = (ks.getD (k - 1) (ByteArray.empty, [])).2.length) :
    ∀ r, r ∈ partsL ks s 1 (old.take (fsum (ks.take (k - 1)) s 1) ++ vals ++ old.drop (fsum (ks.take (k - 1)) s 1 + vals.length)) ↔ (r ∈ partsL ks s 1 old ∧ r.1 ≠ k) ∨ r = (k, vals) := by
  have hks : ks = ks.take (k - 1) ++ (ks[k - 1]'(by omega)) :: ks.drop k := by
    have h1 := List.take_append_drop (k - 1) ks
    rw [List.drop_eq_getElem_cons (by omega), show k - 1 + 1 = k by omega] at h1
    exact h1.symm
  have hA : (ks.take (k - 1)).length = k - 1 := by rw [List.length_take]; omega
  obtain ⟨A, hAe⟩ : ∃ A, A = ks.take (k - 1) := ⟨_, rfl⟩
  obtain ⟨B, hBe⟩ : ∃ B, B = ks.drop k := ⟨_, rfl⟩
  obtain ⟨kd, hkd⟩ : ∃ kd, kd = ks[k - 1]'(by omega) := ⟨_, rfl⟩
  have hv2 : vals.length = kd.2.length := by rw [hv, getD_getElem _ _ _ (by omega), hkd]
  rw [← hAe, ← hBe, ← hkd] at hks
  rw [← hAe] at hA ⊢
  have hsum : fsum ks s 1 = fsum A s 1 + (kd.2.length + fsum B s (k + 1)) := by
    rw [hks, fsum_append, hA, show 1 + (k - 1) = k by omega]
    simp only [fsum, hb, if_true]
  have hx : (old.take (fsum A s 1)).length = fsum A s 1 := by rw [List.length_take]; omega
  have key : ∀ (y z : List Int), y.length = kd.2.length → partsL ks s 1 (old.take (fsum A s 1) ++ (y ++ z)) = partsL A s 1 (old.take (fsum A s 1)) ++ (k, y) :: partsL B s (k + 1) z := fun y z hy => by
    rw [hks, partsL_append A _ s 1 _ _ hx, hA, show 1 + (k - 1) = k by omega]
    congr 1
    rw [partsL_cons, if_pos hb, List.take_left' hy, List.drop_left' hy]
  have hold : old = old.take (fsum A s 1) ++ ((old.drop (fsum A s 1)).take kd.2.length ++ old.drop (fsum A s 1 + kd.2.length)) := by
    rw [← List.drop_drop, List.take_append_drop, List.take_append_drop]
  have hAk : ∀ r ∈ partsL A s 1 (old.take (fsum A s 1)), r.1 ≠ k := fun r hr e => by
    have := partsL_mem A s 1 _ r hr
    omega
  have hBk : ∀ r ∈ partsL B s (k + 1) (old.drop (fsum A s 1 + kd.2.length)), r.1 ≠ k := fun r hr e => by
    have := partsL_mem B s (k + 1) _ r hr
    omega
  have ho2 : partsL ks s 1 old = partsL A s 1 (old.take (fsum A s 1)) ++ (k, (old.drop (fsum A s 1)).take kd.2.length) :: partsL B s (k + 1) (old.drop (fsum A s 1 + kd.2.length)) := by
    conv => lhs; rw [hold]
    exact key _ _ (by rw [List.length_take, List.length_drop]; omega)
  intro r
  rw [List.append_assoc, key vals _ hv2, ho2, hv2]
  simp only [List.mem_append, List.mem_cons]
  constructor
  · rintro (h | rfl | h)
    · exact .inl ⟨.inl h, hAk r h⟩
    · exact .inr rfl
    · exact .inl ⟨.inr (.inr h), hBk r h⟩
  · rintro (⟨h | rfl | h, hne⟩ | rfl)
    · exact .inl h
    · exact absurd rfl hne
    · exact .inr (.inr h)
    · exact .inr (.inl rfl)
end Go.Proofs.YtafmiolehlagkaaGreat

/-
  World: Set's walk.
-/
namespace Go.Proofs.YtafmiolehlagkaaGreat
open Go.RowKit
set_option maxRecDepth 100000
section
variable {w w' : World} {own : Nat → Nat} {gw gp gm gt M M' N : Nat} {vk : Value} {ks : List Kind} {gs fr gs' fr' : List Nat} {f f' : Int × Int → Option Nat} {q q' : Nat → Option Nat} {T T' : Nat → Ts} {C : Co}
def setT (T : Nat → Ts) (s col i : Nat) (vals : List Int) (j : Nat) : Nat → Ts := fun x => if x = s then ((T s).1, setC (T s).2 col i vals j) else T x
/-- One number more is set. -/
theorem set_one {W : World} {s g col i j : Nat} {vals : List Int} (h : Wx 0 W own gw vk gp gm gt M ks gs fr f q (setT T s col i vals j)) (hq : q s = some g) (hi : i < (T s).1.length) (hj : col + j < (T s).2.length) :
    Calls Tryz.prog 91 #[.pointer (some ⟨g, 0, none⟩), .int .i64 (i : Int), .int .i64 ((col + j : Nat) : Int), .int .i64 (vals.getD j 0)] W fun e w' => e = .returned (.int .i64 0) ∧ ∃ own', Wx 0 w' own' gw vk gp gm gt M ks gs fr f q (setT T s col i vals (j + 1)) ∧ Wk own own' W w' := by
  obtain ⟨n, hn, ht⟩ := h.tb hq
  have e1 : setT T s col i vals j s = ((T s).1, setC (T s).2 col i vals j) := if_pos rfl
  rw [e1] at ht
  have hl : col + j < (setC (T s).2 col i vals j).length := by rw [setC_len]; exact hj
  refine (set_any ht i (col + j) (vals.getD j 0) hi hl).mono ?_
  rintro e w' ⟨rfl, t1, t2⟩
  have hT : (setC (T s).2 col i vals j).set (col + j) ((setC (T s).2 col i vals j)[col + j].set i (vals.getD j 0)) = setC (T s).2 col i vals (j + 1) := by
    rw [setC, getD_getElem _ _ _ hl]
  rw [hT] at t1
  have hx := h.table t2 hq (t := ((T s).1, setC (T s).2 col i vals (j + 1))) (M' := M) ⟨n, hn, t1.mono (fun k e => .inl e)⟩ (Nat.le_refl _)
  have hTT : (fun x => if x = s then ((T s).1, setC (T s).2 col i vals (j + 1)) else setT T s col i vals j x) = setT T s col i vals (j + 1) := by
    funext x
    unfold setT
    by_cases c : x = s
    · rw [if_pos c, if_pos c]
    · rw [if_neg c, if_neg c, if_neg c]
  rw [hTT] at hx
  exact ⟨rfl, _, hx, Wk.of t2 (fun k _ e => by have := e.2; omega)⟩
theorem setT_zero (T : Nat → Ts) (s col i : Nat) (vals : List Int) : setT T s col i vals 0 = T := by
  funext x
  unfold setT
  by_cases c : x = s
  · rw [if_pos c, c]
    rfl
  · rw [if_neg c]
set_option maxHeartbeats 8000000 in
theorem wset_any (h : Wx 0 w own gw vk gp gm gt M ks gs fr f q T) (hw : Wi ks f q T) (a b : Int) (hib : InB (a, b)) (hks : ks.length ≤ 12) (hk4 : ∀ x ∈ ks, x.2.length ≤ 4) (s g i : Nat) (hf : f (a, b) = some s) (hq : q s = some g) (hi : i < (T s).1.length) (hx : (T s).1[i] = (a, b)) (k : Nat) (hk1 : 1 ≤ k) (hk2 : k ≤ ks.length) (hbit : s.testBit k = true)
    (av : Option Addr) (nv cv : Nat) (vals : List Int) (hvs : Iz w (.slice av nv cv) vals) (hv0 : ∀ k, (Value.slice av nv cv).ownBlock = some k → own k = 0 ∧ k < w.heap.size) (hl : livesOf gs fr a b = true) (hnv : nv = (ks.getD (k - 1) (ByteArray.empty, [])).2.length) :
    Calls Tryz.prog 35 #[.pointer (some ⟨gw, 0, none⟩), .agg #[.int .i64 a, .int .i64 b], .agg #[.int .i64 (k : Int), .slice av nv cv]] w fun e w' => e = .returned (.int .i64 0) ∧ ∃ own', Wx 0 w' own' gw vk gp gm gt M ks gs fr f q (setT T s (fsum (ks.take (k - 1)) s 1) i vals nv) ∧ Wk own own' w w' := by
  obtain ⟨⟨hs, hsb⟩, hcol, -, -, -, -⟩ := hw.2 s g hq
  have h48 : fsum ks s 1 ≤ 48 := by have := fsum_le ks s 1 hk4; omega
  have hfk : fsum (ks.take (k - 1)) s 1 + nv ≤ (T s).2.length := by
    have h1 := fsum_take ks s (k - 1) (by omega)
    have h2 := fsum_take_le ks s (k - 1 + 1)
    rw [show k - 1 + 1 = k by omega] at h1 h2
    rw [if_pos hbit] at h1
    rw [hnv, getD_getElem _ _ _ (by omega), hcol]
    omega
  have hvl : vals.length = nv := by
    obtain ⟨ao, c, e, -⟩ := hvs
    simp only [Value.slice.injEq] at e
    exact e.2.1.symm
  have hm4 : nv ≤ 4 := by rw [hnv, getD_getElem _ _ _ (by omega)]; exact hk4 _ (List.getElem_mem _)
  obtain ⟨w2, hw2⟩ : ∃ X, X = (w.alloc (.cells #[.int .i64 a, .int .i64 b] 29)).alloc (.cells #[.int .i64 (k : Int), .slice av nv cv] 32) := ⟨_, rfl⟩
  have B2 : Hid (Below w.heap.size w w2) := hw2 ▸ below_on (below_alloc w _) (below_alloc _ _)
  have hx1 : w2.heap[w.heap.size]? = some (.cells #[.int .i64 a, .int .i64 b] 29 (0, 0)) := by
    rw [hw2]
    exact ((below_alloc _ _).block w.heap.size (by simp)).trans (heap_alloc_new w _)
  have hx2 : w2.heap[w.heap.size + 1]? = some (.cells #[.int .i64 (k : Int), .slice av nv cv] 32 (0, 0)) := by
    have := heap_alloc_new (w.alloc (.cells #[.int .i64 a, .int .i64 b] 29)) (.cells #[.int .i64 (k : Int), .slice av nv cv] 32)
    rw [hw2]
    simpa using this
  have HW : Hid (∀ W, Below w2.heap.size w2 W → W.cell? ⟨w.heap.size, 0, none⟩ = some (.int .i64 a) ∧ W.cell? ⟨w.heap.size, 1, none⟩ = some (.int .i64 b) ∧ W.cell? ⟨w.heap.size + 1, 0, none⟩ = some (.int .i64 (k : Int)) ∧ W.cell? ⟨w.heap.size + 1, 1, none⟩ = some (.slice av nv cv)) := fun W hW => by
    have h5 := (hW.block _ (lt_of_block hx2)).trans hx2
    refine ⟨(kx_cells hx1 hW).1, (kx_cells hx1 hW).2, ?_, ?_⟩ <;> rw [cell_of_row W _ _ _ 32 (0, 0) h5] <;> rfl
  have JH : Hid (Calls Tryz.prog 76 #[.pointer (some ⟨gw, 0, none⟩), .agg #[.int .i64 a, .int .i64 b], .int .i64 (k : Int)] w2 fun e w' => e = .returned (.int .i64 0) ∧ Below w2.heap.size w2 w') := by
    have := haspart_any (h.later B2.out) a b (k : Int) hib hks s hs (fun _ => hf)
    have e0 : hasE ks (livesOf gs fr a b) s (k : Int) = 0 := by
      unfold hasE
      rw [hl, if_pos rfl, if_pos ⟨by omega, by omega⟩, Int.toNat_natCast, if_pos hbit]
    rw [e0] at this
    exact this
  have JD : Hid (∀ W, Below w2.heap.size w2 W → Calls Tryz.prog 89 #[.pointer (some ⟨gw, 0, none⟩), .int .i64 (k : Int)] W fun e w' => e = .returned (.int .i64 (nv : Int)) ∧ w' = W) := fun W hW => by
    have hx := h.later (below_on B2.out hW)
    have := fields_any hx.2.2.1 hx.2.2.2.1.kr k hk1 hk2 hks
    rw [← getD_getElem ks (ByteArray.empty, []) (k - 1) (by omega), ← hnv] at this
    exact this
  have JP : Hid (∀ W, Below w2.heap.size w2 W → Calls Tryz.prog 88 #[.pointer (some ⟨gw, 0, none⟩), .agg #[.int .i64 a, .int .i64 b], .int .i64 (k : Int)] W fun e w' => e = .returned (.tuple #[.pointer (some ⟨g, 0, none⟩), .int .i64 (i : Int), .int .i64 ((fsum (ks.take (k - 1)) s 1 : Nat) : Int)]) ∧ Below W.heap.size W w') := fun W hW => place_any (h.later (below_on B2.out hW)) a b hib hks s g i hf hq hs hi hx h48 k hk1 hk2
  have H0 : Hid (∀ W, Below w2.heap.size w2 W → ∃ own', Wx 0 W own' gw vk gp gm gt M ks gs fr f q (setT T s (fsum (ks.take (k - 1)) s 1) i vals 0) ∧ Wk own own' w W) := fun W hW => ⟨_, by rw [setT_zero]; exact h.later (below_on B2.out hW), Wk.later (below_on B2.out hW)⟩
  have JS : Hid (∀ (W : World) (own1 : Nat → Nat) (j : Nat), j < nv → Wx 0 W own1 gw vk gp gm gt M ks gs fr f q (setT T s (fsum (ks.take (k - 1)) s 1) i vals j) → Calls Tryz.prog 91 #[.pointer (some ⟨g, 0, none⟩), .int .i64 (i : Int), .int .i64 ((fsum (ks.take (k - 1)) s 1 + j : Nat) : Int), .int .i64 (vals.getD j 0)] W fun e w' => e = .returned (.int .i64 0) ∧ ∃ own', Wx 0 w' own' gw vk gp gm gt M ks gs fr f q (setT T s (fsum (ks.take (k - 1)) s 1) i vals (j + 1)) ∧ Wk own1 own' W w') := fun W own1 j hj hW => set_one hW hq hi (by omega)
  have HV : Hid (∀ (W : World) (own1 : Nat → Nat), Wk own own1 w W → Iz W (.slice av nv cv) vals) := fun W own1 hk => hvs.frame hk.2 (fun k' e e2 => e2.1 (hv0 k' e).1)
  have hF48 : fsum (ks.take (k - 1)) s 1 ≤ 48 := Nat.le_trans (fsum_take_le ks s (k - 1)) h48
  have HVL := hide hvl
  obtain ⟨hcap, hbig⟩ : nv ≤ cv ∧ cv ≤ 9223372036854775807 := by
    obtain ⟨ao, c, e, e1, e2, -⟩ := hvs
    simp only [Value.slice.injEq] at e
    obtain ⟨rfl, rfl, rfl⟩ := e
    unfold maxLen at e2
    exact ⟨e1, by omega⟩
  generalize fsum (ks.take (k - 1)) s 1 = F at *
  clear h hw hf hq hi hx hx1 hx2 hvs hv0 hcol hsb hib hl hnv hfk hvl
  go_enter Tryz.func35, Tryz.ntmps35
  go_wp2_with fail
  rw [← hw2]
  obtain ⟨kx, hkx⟩ : ∃ k, k = w.heap.size := ⟨_, rfl⟩
  obtain ⟨kp, hkp⟩ : ∃ k, k = w.heap.size + 1 := ⟨_, rfl⟩
  rw [← hkp] at HW ⊢
  rw [← hkx] at HW ⊢
  clear hkx hkp hw2
  refine JH.out.mono ?_
  rintro e w3 ⟨rfl, hb3⟩
  have HB3 := hide hb3
  clear hb3 JH
  have HB4 := hide (below_on HB3.out (below_drew w3))
  obtain ⟨p0, p1, p2, p3⟩ := HW.out w3.drew HB4.out
  have J2 := hide (JD.out w3.drew HB4.out)
  have tn : ((nv : Int) != (nv : Int)) = false := by simp
  go_upto_region 4 with fail
  refine wp_region_noPanic ?_
  refine wp_region_late (J := fun i => i != 99) (S := fun W => W.cell? ⟨kp, 0, none⟩ = some (.int .i64 (k : Int)) ∧ W.cell? ⟨kp, 1, none⟩ = some (.slice av nv cv)) (by kernel_rfl) ⟨p2, p3⟩ (fun hHeld => ?_)
  refine' wpAnyJ_takeW (i := 0) (oi := { dst := some 21, op := Op.fieldAddr 32 (Operand.tmp 5) 1, type := 0, pos := "world.go:90", after := #[], guard := none }) (v := _) rfl (by kernel_rfl) (by kernel_rfl) (by kernel_rfl) (fun _ _ _ h => h) (Or.inl ⟨by rfl, ?hyA1⟩) ?reA1
  case hyA1 => (intro W hSw; (try dsimp only at hSw); go_simp; try with_reducible rfl)
  try simp only [Act.put, List.setIfInBounds_toArray, List.set_cons_zero, List.set_cons_succ]
  refine' wpAnyJ_take (i := 1) (oi := { dst := some 22, op := Op.load 30 (Operand.tmp 21), type := 30, pos := "world.go:90", after := #[{ on := 0, ground := Ground.data }], guard := none }) (v := _) rfl (by kernel_rfl) (by kernel_rfl) (by kernel_rfl) (by kernel_rfl) (fun _ _ _ h => h) (Or.inl ⟨by rfl, ?hyA2⟩) (by assumption) ?reA2
  case hyA2 => (intro W hSw; (try dsimp only at hSw); go_simp; try with_reducible rfl)
  try simp only [Act.put, List.setIfInBounds_toArray, List.set_cons_zero, List.set_cons_succ]
  refine' wpAnyJ_takeW (i := 2) (oi := { dst := some 23, op := Op.call { callee := Callee.builtin Builtin.len, args := #[Operand.tmp 22], argTypes := #[30] }, type := 3, pos := "world.go:90", after := #[{ on := 1, ground := Ground.data }], guard := none }) (v := _) rfl (by kernel_rfl) (by kernel_rfl) (by kernel_rfl) (fun _ _ _ h => h) (Or.inl ⟨by rfl, ?hyA3⟩) ?reA3
  case hyA3 => (intro W hSw; (try dsimp only at hSw); go_simp; try with_reducible rfl)
  try simp only [Act.put, List.setIfInBounds_toArray, List.set_cons_zero, List.set_cons_succ]
  refine' wpAnyJ_takeW (i := 3) (oi := { dst := some 24, op := Op.move (Operand.tmp 0), type := 37, pos := "world.go:90", after := #[], guard := none }) (v := _) rfl (by kernel_rfl) (by kernel_rfl) (by kernel_rfl) (fun _ _ _ h => h) (Or.inl ⟨by rfl, ?hyA4⟩) ?reA4
  case hyA4 => (intro W hSw; (try dsimp only at hSw); go_simp; try with_reducible rfl)
  try simp only [Act.put, List.setIfInBounds_toArray, List.set_cons_zero, List.set_cons_succ]
  refine' wpAnyJ_takeW (i := 4) (oi := { dst := some 25, op := Op.fieldAddr 32 (Operand.tmp 5) 0, type := 0, pos := "world.go:90", after := #[], guard := none }) (v := _) rfl (by kernel_rfl) (by kernel_rfl) (by kernel_rfl) (fun _ _ _ h => h) (Or.inl ⟨by rfl, ?hyA5⟩) ?reA5
  case hyA5 => (intro W hSw; (try dsimp only at hSw); go_simp; try with_reducible rfl)
  try simp only [Act.put, List.setIfInBounds_toArray, List.set_cons_zero, List.set_cons_succ]
  refine' wpAnyJ_take (i := 5) (oi := { dst := some 26, op := Op.load 3 (Operand.tmp 25), type := 3, pos := "world.go:90", after := #[{ on := 4, ground := Ground.data }], guard := none }) (v := _) rfl (by kernel_rfl) (by kernel_rfl) (by kernel_rfl) (by kernel_rfl) (fun _ _ _ h => h) (Or.inl ⟨by rfl, ?hyA6⟩) (by assumption) ?reA6
  case hyA6 => (intro W hSw; (try dsimp only at hSw); go_simp; try with_reducible rfl)
  try simp only [Act.put, List.setIfInBounds_toArray, List.set_cons_zero, List.set_cons_succ]
  refine wpAnyJ_ready (rs := [6]) (by kernel_rfl) (by simp) ?_
  refine AllReadyJ.cons (o := { dst := some 27, op := Op.call { callee := Callee.value (Operand.func 89), args := #[Operand.tmp 24, Operand.tmp 26], argTypes := #[37, 3] }, type := 3, pos := "world.go:90", after := #[{ on := 3, ground := Ground.data }, { on := 5, ground := Ground.data }], guard := none }) rfl (fun K hK => ?_) AllReadyJ.nil
  go_simp
  go_at_call 89
  refine J2.out.mono ?_
  rintro e w5 ⟨rfl, rfl⟩
  go_simp
  refine hK.out _ _ (fun _ _ => ⟨p2, p3⟩) ?_
  clear hK K
  try simp only [Act.put, List.setIfInBounds_toArray, List.set_cons_zero, List.set_cons_succ]
  refine' wpAnyJ_takeW (i := 7) (oi := { dst := some 28, op := Op.binOp BinOp.neq 3 (Operand.tmp 23) (Operand.tmp 27) 3, type := 4, pos := "world.go:90", after := #[{ on := 2, ground := Ground.data }, { on := 6, ground := Ground.data }], guard := none }) (v := _) rfl (by kernel_rfl) (by kernel_rfl) (by kernel_rfl) (fun _ _ _ h => h) (Or.inl ⟨by rfl, ?hyA7⟩) ?reA7
  case hyA7 => (intro W hSw; (try dsimp only at hSw); go_simp; try with_reducible rfl)
  try simp only [Act.put, List.setIfInBounds_toArray, List.set_cons_zero, List.set_cons_succ]
  refine wpAnyJ_done (by kernel_rfl) ?_ _
  refine NoPanic.normal ?_
  clear J2 JD
  have J6 := hide (JP.out w3.drew HB4.out)
  go_wp2_with fail
  refine J6.out.mono ?_
  rintro e w6 ⟨rfl, hb6⟩
  have HB6 := hide (below_on HB4.out hb6)
  clear hb6 J6 JP p0 p1 p2 p3
  obtain ⟨p0, p1, p2, p3⟩ := HW.out w6 HB6.out
  have H6 := hide (H0.out w6 HB6.out)
  clear H0 HW
  go_wp2_with fail
  clear p0 p1 p2 p3
  go_loopw [41] (fun v41 W => ∃ j : Nat, j ≤ nv ∧ v41 = .int .i64 (j : Int) ∧ Hid (∃ own', Wx 0 W own' gw vk gp gm gt M ks gs fr f q (setT T s F i vals j) ∧ Wk own own' w W)) (fun v41 _ => nv - (intOf v41).toNat)
  case atStart => exact ⟨0, Nat.zero_le _, rfl, H6⟩
  case round =>
    obtain ⟨j, hjl, rfl, HJ⟩ := hrel
    by_cases hlt : j < nv
    · have t1 : (j : Int) < (nv : Int) := by omega
      have t0 : (0 : Int) ≤ (j : Int) := by omega
      obtain ⟨own1, k1, k2⟩ := HJ.out
      obtain ⟨ao', c', e', -, -, hcell⟩ := HV.out wr own1 k2
      simp only [Value.slice.injEq] at e'
      obtain ⟨rfl, -, rfl⟩ := e'
      obtain ⟨gv, ov, rfl, ex⟩ := hcell j (by rw [HVL.out]; exact hlt)
      have hgd : vals.getD j 0 = vals[j]'(by rw [HVL.out]; exact hlt) := getD_getElem _ _ _ _
      have J9 : Hid (Calls Tryz.prog 91 #[.pointer (some ⟨g, 0, none⟩), .int .i64 (i : Int), .int .i64 ((F + j : Nat) : Int), .int .i64 (vals.getD j 0)] wr fun e w' => e = .returned (.int .i64 0) ∧ Hid (∃ own', Wx 0 w' own' gw vk gp gm gt M ks gs fr f q (setT T s F i vals (j + 1)) ∧ Wk own own' w w')) := (JS.out wr own1 j hlt k1).mono (fun e w' ⟨q1, own', q2, q3⟩ => ⟨q1, own', q2, k2.trans q3⟩)
      rw [hgd] at J9
      have t4 : IntKind.i64.wrap ((F : Int) + (j : Int)) = ((F + j : Nat) : Int) := by rw [IntKind.wrap_i64]; omega
      generalize vals[j]'(by rw [HVL.out]; exact hlt) = x at *
      obtain ⟨Fj, hFj⟩ : ∃ X : Int, X = ((F + j : Nat) : Int) := ⟨_, rfl⟩
      rw [← hFj] at t4 J9
      clear hcell k1 k2 hgd HJ hFj
      go_wp2_with fail
      refine J9.out.mono ?_
      rintro e w9 ⟨rfl, H9⟩
      clear J9
      go_wp2_with fail
      go_roundw
      case rel => exact ⟨j + 1, by omega, by go_num, H9⟩
      case measure => simp [intOf]; omega
    · obtain rfl : j = nv := by omega
      have t1 : ¬ (j : Int) < (j : Int) := by omega
      go_wp2_with fail
      go_ret
      exact ⟨rfl, HJ.out⟩
end
end Go.Proofs.YtafmiolehlagkaaGreat

/-
  World: Remove's walk.
-/
namespace Go.Proofs.YtafmiolehlagkaaGreat
open Go.RowKit
set_option maxRecDepth 100000
section
variable {w w' : World} {own : Nat → Nat} {gw gp gm gt M M' N : Nat} {vk : Value} {ks : List Kind} {gs fr gs' fr' : List Nat} {f f' : Int × Int → Option Nat} {q q' : Nat → Option Nat} {T T' : Nat → Ts} {C : Co}
/-- What Remove leaves. -/
def Removed (w w' : World) (own : Nat → Nat) (gw : Nat) (vk : Value) (gp gm gt M : Nat) (ks : List Kind) (gs fr : List Nat) (f : Int × Int → Option Nat) (q : Nat → Option Nat) (T : Nat → Ts) (e : Int × Int) (s i : Nat) (k : Nat) : Prop :=
  ∃ (vals' : List Int) (g : Nat) (own' : Nat → Nat), Wx 0 w' own' gw vk gp gm gt (M + 4) ks gs fr (fun y => if y = e then some (s ^^^ 2 ^ k) else if y = e then none else f y) (fun y => if y = s ^^^ 2 ^ k then some g else lessQ q T s y) (moreT (lessQ q T s) (lessT T s i) (s ^^^ 2 ^ k) e vals') ∧ Wk own own' w w' ∧ Wi ks (fun y => if y = e then some (s ^^^ 2 ^ k) else if y = e then none else f y) (fun y => if y = s ^^^ 2 ^ k then some g else lessQ q T s y) (moreT (lessQ q T s) (lessT T s i) (s ^^^ 2 ^ k) e vals') ∧ vals'.length = fsum ks (s ^^^ 2 ^ k) 1 ∧ ∀ r, r ∈ partsL ks (s ^^^ 2 ^ k) 1 vals' ↔ r ∈ partsL ks s 1 (rowOf (T s).2 i) ∧ r.1 ≠ k
set_option maxHeartbeats 8000000 in
theorem wremove_any (h : Wx 0 w own gw vk gp gm gt M ks gs fr f q T) (hw : Wi ks f q T) (a b : Int) (hib : InB (a, b)) (hks : ks.length ≤ 12) (hk4 : ∀ x ∈ ks, x.2.length ≤ 4) (s g i : Nat) (hf : f (a, b) = some s) (hq : q s = some g) (hi : i < (T s).1.length) (hx : (T s).1[i] = (a, b)) (hcnt : ∀ E : List (Int × Int), E.Nodup → (∀ e ∈ E, (f e).isSome = true) → E.length ≤ 200) (hM : M ≤ 800000) (k : Nat) (hk1 : 1 ≤ k) (hk2 : k ≤ ks.length) (hbit : s.testBit k = true) (hl : livesOf gs fr a b = true) :
    Calls Tryz.prog 26 #[.pointer (some ⟨gw, 0, none⟩), .agg #[.int .i64 a, .int .i64 b], .int .i64 (k : Int)] w fun e w' => e = .returned (.int .i64 0) ∧ Removed w w' own gw vk gp gm gt M ks gs fr f q T (a, b) s i k := by
  have hmf : ∀ (fn : Fn) (first cap : Array Value) (w : World), (Instr.makeFunc fn first cap).run Tryz.prog w = .ok (.func fn first cap) w := fun _ _ _ _ => rfl
  obtain ⟨⟨hs, hsb⟩, hcol, -, -, -, -⟩ := hw.2 s g hq
  obtain ⟨w2, hw2⟩ : ∃ X, X = (w.alloc (.cells #[.int .i64 a, .int .i64 b] 29)).alloc (.cells #[.int .i64 (k : Int)] 3) := ⟨_, rfl⟩
  have B2 : Hid (Below w.heap.size w w2) := hw2 ▸ below_on (below_alloc w _) (below_alloc _ _)
  have hx1 : w2.heap[w.heap.size]? = some (.cells #[.int .i64 a, .int .i64 b] 29 (0, 0)) := by
    rw [hw2]
    exact ((below_alloc _ _).block w.heap.size (by simp)).trans (heap_alloc_new w _)
  have hx2 : w2.heap[w.heap.size + 1]? = some (.cells #[.int .i64 (k : Int)] 3 (0, 0)) := by
    have := heap_alloc_new (w.alloc (.cells #[.int .i64 a, .int .i64 b] 29)) (.cells #[.int .i64 (k : Int)] 3)
    rw [hw2]
    simpa using this
  have HW : Hid (∀ W, Below w2.heap.size w2 W → W.cell? ⟨w.heap.size, 0, none⟩ = some (.int .i64 a) ∧ W.cell? ⟨w.heap.size, 1, none⟩ = some (.int .i64 b) ∧ W.cell? ⟨w.heap.size + 1, 0, none⟩ = some (.int .i64 (k : Int))) := fun W hW => by
    have h5 := (hW.block _ (lt_of_block hx2)).trans hx2
    refine ⟨(kx_cells hx1 hW).1, (kx_cells hx1 hW).2, ?_⟩
    rw [cell_of_row W _ _ _ 3 (0, 0) h5]
    rfl
  have JH : Hid (Calls Tryz.prog 76 #[.pointer (some ⟨gw, 0, none⟩), .agg #[.int .i64 a, .int .i64 b], .int .i64 (k : Int)] w2 fun e w' => e = .returned (.int .i64 0) ∧ Below w2.heap.size w2 w') := by
    have := haspart_any (h.later B2.out) a b (k : Int) hib hks s hs (fun _ => hf)
    have e0 : hasE ks (livesOf gs fr a b) s (k : Int) = 0 := by
      unfold hasE
      rw [hl, if_pos rfl, if_pos ⟨by omega, by omega⟩, Int.toNat_natCast, if_pos hbit]
    rw [e0] at this
    exact this
  have JP : Hid (∀ W, Below w2.heap.size w2 W → Calls Tryz.prog 78 #[.pointer (some ⟨gw, 0, none⟩), .agg #[.int .i64 a, .int .i64 b]] W fun e w7 => ∃ (a7 : Option Addr) (n7 c7 : Nat), e = .returned (.slice a7 n7 c7) ∧ w7.cell? ⟨w.heap.size, 0, none⟩ = some (.int .i64 a) ∧ w7.cell? ⟨w.heap.size, 1, none⟩ = some (.int .i64 b) ∧ w7.cell? ⟨w.heap.size + 1, 0, none⟩ = some (.int .i64 (k : Int)) ∧ Hid (Calls Tryz.prog 77 #[.slice a7 n7 c7, .func (.func 79) #[] #[.pointer (some ⟨w.heap.size + 1, 0, none⟩)]] w7 fun e w8 => ∃ (a8 : Option Addr) (n8 c8 : Nat), e = .returned (.slice a8 n8 c8) ∧ w8.cell? ⟨w.heap.size, 0, none⟩ = some (.int .i64 a) ∧ w8.cell? ⟨w.heap.size, 1, none⟩ = some (.int .i64 b) ∧
      Hid (Calls Tryz.prog 80 #[.pointer (some ⟨gw, 0, none⟩), .agg #[.int .i64 a, .int .i64 b]] w8 fun e w9 => e = .returned (.tuple #[]) ∧ w9.cell? ⟨w.heap.size, 0, none⟩ = some (.int .i64 a) ∧ w9.cell? ⟨w.heap.size, 1, none⟩ = some (.int .i64 b) ∧ Hid (Calls Tryz.prog 67 #[.pointer (some ⟨gw, 0, none⟩), .agg #[.int .i64 a, .int .i64 b], .slice a8 n8 c8] w9 fun e w' => e = .returned (.tuple #[]) ∧ Removed w w' own gw vk gp gm gt M ks gs fr f q T (a, b) s i k)))) := fun W hW => by
    refine (parts_any (h.later (below_on B2.out hW)) a b hib hks s g i hf hq hs hi hx hcol).mono ?_
    rintro e w7 ⟨v, rfl, L, l1, l2, l3⟩
    obtain ⟨a7, n7, c7, rfl⟩ := own_slice l1
    have hb7 : Below w2.heap.size w2 w7 := below_on hW l3
    have hbw : Below w.heap.size w w7 := below_on B2.out hb7
    have h2s := B2.out.size
    have hWs := hW.size
    have l1' := own_lower l1 (show w.heap.size ≤ W.heap.size by omega)
    have l2' : Pv w.heap.size w7 L (partsL ks s 1 (rowOf (T s).2 i)) := ⟨l2.1, fun i h1 h2 => ⟨(l2.2 i h1 h2).1, own_lower (l2.2 i h1 h2).2 (by omega)⟩⟩
    obtain ⟨A, Bq, p, R, hL, hA, hB, hp, hpv, hR, hpg, hset⟩ := parts_less l2' ((rowOf_len _ _).trans hcol) hsb hks hk1 hk2 hbit
    obtain ⟨c0, c1, c2⟩ := HW.out w7 hb7
    refine ⟨a7, n7, c7, rfl, c0, c1, c2, ?_⟩
    have hn7 : n7 = L.length := by
      obtain ⟨x, y, e⟩ := own_len l1
      simp only [Value.slice.injEq] at e
      exact e.2.1
    have hkb7 := (hb7.block _ (lt_of_block hx2)).trans hx2
    have hkx7 := (hb7.block _ (lt_of_block hx1)).trans hx1
    have l1s : w7.ownsRow w.heap.size 32 2 (.slice a7 n7 c7) n7 (pz (A ++ p :: Bq)) := by
      rw [← hL, hn7]
      rw [hn7] at l1'
      exact l1'
    refine (delete_fn hkb7 l1s hA hB hp).mono ?_
    rintro e w8 ⟨v8, rfl, ob, o8, g8⟩
    obtain ⟨a8, n8, c8, rfl⟩ := own_slice o8
    have hnk : (Value.slice a7 n7 c7).ownBlock ≠ some w.heap.size := fun e => by have := (l1.lt _ e).1; have := lt_of_block hx1; omega
    have hkx8 : w8.heap[w.heap.size]? = some (.cells #[.int .i64 a, .int .i64 b] 29 (0, 0)) := (g8.block _ (lt_of_block hkx7) (fun e => hnk e.symm)).trans hkx7
    have hb8 : Below w.heap.size w w8 := hbw.grown g8 hbw.size (fun q e => (l1s.lt q e).1)
    have pv8 : Pv w.heap.size w8 (A ++ Bq) R := hpv w8 (fun j h1 h2 => own_kept (l2'.2 j h1 h2).2 g8 (fun q e e2 => own_kinds (l2'.2 j h1 h2).2 l1s (by decide) e e2))
    obtain ⟨d0, d1⟩ := kx_cells hkx8 (Below.refl _ w8)
    refine ⟨a8, n8, c8, rfl, d0, d1, ?_⟩
    refine (drop_any (h.later hb8) a b hib s g i hf hq hs hi hx (by omega)).mono ?_
    rintro e w9 ⟨rfl, own1, r1, r2⟩
    have hnl : ¬ (rel own w 0 w.heap.size ≠ 0) := fun e => e (rel_new (Nat.le_refl _))
    obtain ⟨d0, d1⟩ := kx_cells (r2.mv.at hkx8 hnl) (Below.refl _ w9)
    refine ⟨rfl, d0, d1, ?_⟩
    have hc2 : ∀ E : List (Int × Int), E.Nodup → (∀ e ∈ E, ((fun y => if y = (a, b) then none else f y) e).isSome = true) → E.length < 200 := fun E e1 e2 => by
      have := hcnt (E ++ [(a, b)]) (by
        rw [List.nodup_append]
        refine ⟨e1, by simp, fun y hy z hz e => ?_⟩
        simp only [List.mem_singleton] at hz
        have := e2 y hy
        rw [e, hz] at this
        simp at this) (fun y hy => by
        rcases List.mem_append.1 hy with hy | hy
        · have := e2 y hy
          by_cases c : y = (a, b)
          · simp [c] at this
          · simpa [c] using this
        · rw [List.mem_singleton.1 hy, hf]; rfl)
      rw [List.length_append, List.length_singleton] at this
      omega
    have o8' : w8.ownsRow w.heap.size 32 2 (.slice a8 n8 c8) (A ++ Bq).length (pz (A ++ Bq)) := o8
    refine (pv_put o8' pv8 hb8 hpg hks hk4 r1 r2 (hw.drop hf hi hx) a b hib (if_pos rfl) hc2 (by omega)).mono ?_
    rintro e w' ⟨rfl, vals', g', own', s1, s2, s3, s4, s5⟩
    rw [hset] at s1 s3 s4 s5
    exact ⟨rfl, vals', g', own', s1, s2, s3, s4, fun r => (s5 r).trans (hR r)⟩
  clear h hf hl hx1 hx2 hw hq hi hx hcnt hcol hsb hib hk4 hbit
  go_enter Tryz.func26, Tryz.ntmps26
  go_wp2_with fail
  rw [← hw2]
  obtain ⟨kx, hkx⟩ : ∃ k, k = w.heap.size := ⟨_, rfl⟩
  obtain ⟨kp, hkp⟩ : ∃ k, k = w.heap.size + 1 := ⟨_, rfl⟩
  rw [← hkp] at HW JP ⊢
  rw [← hkx] at HW JP ⊢
  clear hkx hkp hw2
  refine JH.out.mono ?_
  rintro e w3 ⟨rfl, hb3⟩
  obtain ⟨p0, p1, p2⟩ := HW.out w3 hb3
  have J4 := hide (JP.out w3 hb3)
  clear hb3 JH HW JP
  go_wp2_with fail
  refine J4.out.mono ?_
  rintro e w7 ⟨a7, n7, c7, rfl, q0, q1, q2, J7⟩
  clear J4 p0 p1 p2
  go_wp2_with fail
  refine J7.out.mono ?_
  rintro e w8 ⟨a8, n8, c8, rfl, p0, p1, J8⟩
  clear J7 q0 q1 q2
  go_wp2_with fail
  refine J8.out.mono ?_
  rintro e w9 ⟨rfl, q0, q1, J9⟩
  clear J8 p0 p1
  go_wp2_with fail
  refine J9.out.mono ?_
  rintro e w10 ⟨rfl, HE⟩
  have HEE := hide HE
  clear HE J9
  go_wp2_with fail
  go_ret
  exact ⟨rfl, HEE.out⟩
end
/-! ### Told by who lives with what -/
section
variable {w w' : World} {own : Nat → Nat} {gw N : Nat} {ks : List Kind} {gs fr : List Nat} {C : Co}
theorem Wn.remove (h : Wn w own gw N ks gs fr C) (hN : N ≤ 800000) (a b : Int) (k : Nat) (s : Nat) (old : List Int) (hc : C (a, b) = some (s, old)) (hk1 : 1 ≤ k) (hk2 : k ≤ ks.length) (hbit : s.testBit k = true) :
    Calls Tryz.prog 26 #[.pointer (some ⟨gw, 0, none⟩), .agg #[.int .i64 a, .int .i64 b], .int .i64 (k : Int)] w fun e w' => e = .returned (.int .i64 0) ∧ ∃ (vals' : List Int) (own' : Nat → Nat), Wn w' own' gw (N + 4) ks gs fr (fun y => if y = (a, b) then some (s ^^^ 2 ^ k, vals') else C y) ∧ Wk own own' w w' ∧ vals'.length = fsum ks (s ^^^ 2 ^ k) 1 ∧ ∀ r, r ∈ partsL ks (s ^^^ 2 ^ k) 1 vals' ↔ r ∈ partsL ks s 1 old ∧ r.1 ≠ k := by
  have ho := h.ok
  obtain ⟨vk, gp, gm, gt, q, T, h1, h2, h3, h4, h5, h6⟩ := h
  have hf := fC_some hc
  obtain ⟨hs, ⟨g, hq⟩, -⟩ := h2.1 _ s hf
  obtain ⟨i, hi, hx, hrow⟩ := h3 _ s old hc
  have hl : livesOf gs fr a b = true := by rw [h5, hc]; rfl
  refine (wremove_any h1 h2 a b (inb_of ho hl) h4.2.1 (fun x hx => (h4.2.2.1 x hx).1) s g i hf hq hi hx (fun E e1 e2 => lives_cnt h5 ho.2.2.1 E e1 e2) hN k hk1 hk2 hbit hl).mono ?_
  rintro e w' ⟨rfl, vals', g', own', r1, r2, r3, r4, r5⟩
  have hfe : (fun y => if y = (a, b) then some (s ^^^ 2 ^ k) else if y = (a, b) then none else fC C y) = fC (fun y => if y = (a, b) then some (s ^^^ 2 ^ k, vals') else C y) := by
    rw [fC_more]
    funext y
    by_cases c : y = (a, b) <;> simp [c]
  rw [hfe] at r1 r3
  rw [hrow] at r5
  refine ⟨rfl, vals', own', ⟨vk, gp, gm, gt, _, _, r1, r3, ?_, h4, fun c d => ?_, fun e s' vs he => ?_⟩, r2, r4, r5⟩
  · have hd := h3.drop h2 hf hi hx
    have hwd : Wi ks (fC (fun x => if x = (a, b) then none else C x)) (lessQ q T s) (lessT T s i) := by
      rw [fC_less]
      exact h2.drop hf hi hx
    have hp := hd.put hwd (e := (a, b)) (s := s ^^^ 2 ^ k) (vals := vals') r4
    intro e s' vs he
    refine hp e s' vs ?_
    dsimp only at he ⊢
    by_cases c : e = (a, b)
    · rw [if_pos c] at he ⊢
      exact he
    · rw [if_neg c] at he ⊢
      rw [if_neg c]
      exact he
  · rw [h5]
    dsimp only
    by_cases e : (c, d) = (a, b)
    · rw [if_pos e, e, hc]
      rfl
    · rw [if_neg e]
  · dsimp only at he
    by_cases c : e = (a, b)
    · rw [if_pos c] at he
      simp only [Option.some.injEq, Prod.mk.injEq] at he
      obtain ⟨rfl, rfl⟩ := he
      have hflat := partsL_flat ks (s ^^^ 2 ^ k) 1 vals' r4
      intro z hz
      rw [← hflat] at hz
      obtain ⟨r, hr, hzr⟩ := List.mem_flatMap.1 hz
      exact h6 _ _ _ hc z (partsL_sub ks s 1 old r ((r5 r).1 hr).1 z hzr)
    · rw [if_neg c] at he
      exact h6 e s' vs he
theorem Wn.set (h : Wn w own gw N ks gs fr C) (a b : Int) (k : Nat) (s : Nat) (old vals : List Int) (hc : C (a, b) = some (s, old)) (hk1 : 1 ≤ k) (hk2 : k ≤ ks.length) (hbit : s.testBit k = true) (av : Option Addr) (nv cv : Nat) (hvs : Iz w (.slice av nv cv) vals) (hv0 : ∀ k, (Value.slice av nv cv).ownBlock = some k → own k = 0 ∧ k < w.heap.size) (hnv : nv = (ks.getD (k - 1) (ByteArray.empty, [])).2.length) (hfit : Pak.Rw.AllFit vals) :
    Calls Tryz.prog 35 #[.pointer (some ⟨gw, 0, none⟩), .agg #[.int .i64 a, .int .i64 b], .agg #[.int .i64 (k : Int), .slice av nv cv]] w fun e w' => e = .returned (.int .i64 0) ∧ ∃ (own' : Nat → Nat), Wn w' own' gw N ks gs fr (fun y => if y = (a, b) then some (s, old.take (fsum (ks.take (k - 1)) s 1) ++ vals ++ old.drop (fsum (ks.take (k - 1)) s 1 + vals.length)) else C y) ∧ Wk own own' w w' := by
  have ho := h.ok
  obtain ⟨vk, gp, gm, gt, q, T, h1, h2, h3, h4, h5, h6⟩ := h
  have hf := fC_some hc
  obtain ⟨hs, ⟨g, hq⟩, -⟩ := h2.1 _ s hf
  obtain ⟨i, hi, hx, hrow⟩ := h3 _ s old hc
  have hl : livesOf gs fr a b = true := by rw [h5, hc]; rfl
  obtain ⟨hsp, hcol, hnd, hmem, hne0, hcl⟩ := h2.2 s g hq
  have hvl : vals.length = nv := by
    obtain ⟨ao, c, e, -⟩ := hvs
    simp only [Value.slice.injEq] at e
    exact e.2.1.symm
  have hfk : fsum (ks.take (k - 1)) s 1 + nv ≤ (T s).2.length := by
    have g1 := fsum_take ks s (k - 1) (by omega)
    have g2 := fsum_take_le ks s (k - 1 + 1)
    rw [show k - 1 + 1 = k by omega] at g1 g2
    rw [if_pos hbit] at g1
    rw [hnv, getD_getElem _ _ _ (by omega), hcol]
    omega
  refine (wset_any h1 h2 a b (inb_of ho hl) h4.2.1 (fun x hx => (h4.2.2.1 x hx).1) s g i hf hq hi hx k hk1 hk2 hbit av nv cv vals hvs hv0 hl hnv).mono ?_
  rintro e w' ⟨rfl, own', r1, r2⟩
  have hfe : fC (fun y => if y = (a, b) then some (s, old.take (fsum (ks.take (k - 1)) s 1) ++ vals ++ old.drop (fsum (ks.take (k - 1)) s 1 + vals.length)) else C y) = fC C := by
    rw [fC_more]
    funext y
    by_cases c : y = (a, b)
    · rw [if_pos c, c, hf]
    · rw [if_neg c]
  have hself := row_setC_self hcl hi hfk hvl
  rw [hrow] at hself
  refine ⟨rfl, own', ⟨vk, gp, gm, gt, q, _, by rw [hfe]; exact r1, ?_, fun e s' vs he => ?_, h4, fun c d => ?_, fun e s' vs he => ?_⟩, r2⟩
  · rw [hfe]
    refine ⟨fun e s' he => ?_, fun s' g' hg' => ?_⟩
    · obtain ⟨m1, m2, m3⟩ := h2.1 e s' he
      refine ⟨m1, m2, ?_⟩
      unfold setT
      by_cases c : s' = s
      · rw [if_pos c]
        rw [c] at m3
        exact m3
      · rw [if_neg c]
        exact m3
    · obtain ⟨m1, m2, m3, m4, m5, m6⟩ := h2.2 s' g' hg'
      unfold setT
      by_cases c : s' = s
      · subst c
        rw [if_pos rfl]
        exact ⟨m1, by rw [setC_len]; exact m2, m3, m4, m5, setC_cols m6 hfk⟩
      · rw [if_neg c]
        exact ⟨m1, m2, m3, m4, m5, m6⟩
  · dsimp only at he
    by_cases c : e = (a, b)
    · rw [if_pos c] at he
      simp only [Option.some.injEq, Prod.mk.injEq] at he
      obtain ⟨rfl, rfl⟩ := he
      unfold setT
      rw [if_pos rfl]
      exact ⟨i, hi, hx.trans c.symm, by rw [hself, hvl]⟩
    · rw [if_neg c] at he
      obtain ⟨j, hj, e1, e2⟩ := h3 e s' vs he
      unfold setT
      by_cases d : s' = s
      · subst d
        rw [if_pos rfl]
        refine ⟨j, hj, e1, ?_⟩
        rw [row_setC_other hfk (fun e' => c (by subst e'; exact e1.symm.trans hx))]
        exact e2
      · rw [if_neg d]
        exact ⟨j, hj, e1, e2⟩
  · rw [h5]
    dsimp only
    by_cases e : (c, d) = (a, b)
    · rw [if_pos e, e, hc]
      rfl
    · rw [if_neg e]
  · dsimp only at he
    by_cases c : e = (a, b)
    · rw [if_pos c] at he
      simp only [Option.some.injEq, Prod.mk.injEq] at he
      obtain ⟨rfl, rfl⟩ := he
      intro z hz
      rcases List.mem_append.1 hz with hz | hz
      · rcases List.mem_append.1 hz with hz | hz
        · exact h6 _ _ _ hc z (List.mem_of_mem_take hz)
        · exact hfit z hz
      · exact h6 _ _ _ hc z (List.mem_of_mem_drop hz)
    · rw [if_neg c] at he
      exact h6 e s' vs he
end
end Go.Proofs.YtafmiolehlagkaaGreat

/-
  World: a deed on one that lives.
-/
namespace Go.Proofs.YtafmiolehlagkaaGreat
open Go.RowKit
set_option maxRecDepth 100000
/-- Something was done to one that lives: all others are as they were, nobody came or went. -/
def Deeded (w : World) (own : Nat → Nat) (gw N : Nat) (gs fr : List Nat) (C : Co) (w' : World) : Prop :=
  ∃ own' C', Wn w' own' gw (N + 4) usualK gs fr C' ∧ Wk own own' w w' ∧ ∀ x, (C' x).isSome = (C x).isSome
section
variable {w w' : World} {own : Nat → Nat} {gw N : Nat} {gs fr : List Nat} {C : Co}
theorem Deeded.same (h : Wn w own gw N usualK gs fr C) (hb : Below w.heap.size w w') : Deeded w own gw N gs fr C w' := ⟨_, C, (h.later hb).up (by omega), Wk.later hb, fun _ => rfl⟩
theorem dom_same {a b : Int} {p p' : Nat × List Int} (hc : C (a, b) = some p) (x : Int × Int) : ((fun y => if y = (a, b) then some p' else C y) x).isSome = (C x).isSome := by
  dsimp only
  by_cases c : x = (a, b)
  · rw [if_pos c, c, hc]; rfl
  · rw [if_neg c]
theorem Wn.inb (h : Wn w own gw N usualK gs fr C) {a b : Int} {p : Nat × List Int} (hc : C (a, b) = some p) : InB (a, b) ∧ livesOf gs fr a b = true := by
  have ho := h.ok
  obtain ⟨vk, gp, gm, gt, q, T, h1, h2, h3, h4, h5, h6⟩ := h
  have : livesOf gs fr a b = true := by rw [h5, hc]; rfl
  exact ⟨inb_of ho this, this⟩
theorem c4_fields {kk : Nat} (hk : kk < 4) : c4 kk = (usualK.getD kk (ByteArray.empty, [])).2.length := by
  match kk, hk with
  | 0, _ => rfl
  | 1, _ => rfl
  | 2, _ => rfl
  | 3, _ => rfl
theorem Wn.add_some (h : Wn w own gw N usualK gs fr C) (hN : N ≤ 800000) (a b : Int) (s : Nat) (old : List Int) (hc : C (a, b) = some (s, old)) (kk : Nat) (_hk : kk < 4) (y : Int) (B : Nat) (av : Option Addr) (nv cv : Nat) (ho : w.ownsRow B 2 1 (.slice av nv cv) (c4 kk) (zc (valsN y (c4 kk)))) (hv0 : ∀ k, (Value.slice av nv cv).ownBlock = some k → own k = 0) :
    Calls Tryz.prog 27 #[.pointer (some ⟨gw, 0, none⟩), .agg #[.int .i64 a, .int .i64 b], .agg #[.int .i64 ((kk : Int) + 1), .slice av nv cv]] w fun e w' => (∃ z, e = .returned (.int .i64 z)) ∧ Deeded w own gw N gs fr C w' := by
  have hn : nv = c4 kk := by
    obtain ⟨x, z, e⟩ := own_len ho
    simp only [Value.slice.injEq] at e
    exact e.2.1
  by_cases hz : comeS usualK s ((kk : Int) + 1) nv = 0
  · refine (h.add hN a b ((kk : Int) + 1) s old (valsN y (c4 kk)) hc av nv cv (Iz.own (l := valsN y (c4 kk)) (by rw [valsN_len]; exact ho)) ?_ (fun k e => ⟨hv0 k e, (ho.lt k e).2⟩) hz (valsN_fit _ _)).mono ?_
    · intro e
      rcases ho.2 with ⟨e', -⟩ | ⟨g, c', cur, e', -⟩
      · simp only [Value.slice.injEq] at e'
        exact Prod.ext e'.2.1 e'.2.2
      · simp only [Value.slice.injEq] at e'
        rw [e] at e'
        cases e'.1
    · rintro e w' ⟨rfl, vals', own', r1, r2, -⟩
      exact ⟨⟨0, rfl⟩, own', _, r1, r2, dom_same hc⟩
  · refine (h.add_err a b ((kk : Int) + 1) s old hc av nv cv _ rfl hz).mono ?_
    rintro e w' ⟨rfl, hb⟩
    exact ⟨⟨_, rfl⟩, Deeded.same h hb⟩
theorem Wn.remove_some (h : Wn w own gw N usualK gs fr C) (hN : N ≤ 800000) (a b : Int) (s : Nat) (old : List Int) (hc : C (a, b) = some (s, old)) (kk : Nat) (hk : kk < 4) :
    Calls Tryz.prog 26 #[.pointer (some ⟨gw, 0, none⟩), .agg #[.int .i64 a, .int .i64 b], .int .i64 ((kk : Int) + 1)] w fun e w' => (∃ z, e = .returned (.int .i64 z)) ∧ Deeded w own gw N gs fr C w' := by
  have e1 : ((kk + 1 : Nat) : Int) = (kk : Int) + 1 := by omega
  by_cases hbit : s.testBit (kk + 1) = true
  · have := h.remove hN a b (kk + 1) s old hc (by omega) (by show kk + 1 ≤ 4; omega) hbit
    rw [e1] at this
    refine this.mono ?_
    rintro e w' ⟨rfl, vals', own', r1, r2, -⟩
    exact ⟨⟨0, rfl⟩, own', _, r1, r2, dom_same hc⟩
  · obtain ⟨hib, hl⟩ := h.inb hc
    have h0 := h
    obtain ⟨vk, gp, gm, gt, q, T, h1, h2, h3, h4, h5, h6⟩ := h
    refine (remove_err h1 a b ((kk : Int) + 1) hib h4.2.1 s (h2.1 _ s (fC_some hc)).1 (fun _ => fC_some hc) 62 ?_ (by omega)).mono ?_
    · unfold hasE
      rw [if_pos hl, if_pos (⟨by omega, by show (kk : Int) + 1 ≤ 4; omega⟩), if_neg]
      rw [← e1, Int.toNat_natCast]
      exact hbit
    · rintro e w' ⟨rfl, hb⟩
      exact ⟨⟨_, rfl⟩, Deeded.same h0 hb⟩
theorem Wn.set_some (h : Wn w own gw N usualK gs fr C) (a b : Int) (s : Nat) (old : List Int) (hc : C (a, b) = some (s, old)) (kk : Nat) (hk : kk < 4) (y : Int) (B : Nat) (av : Option Addr) (nv cv : Nat) (ho : w.ownsRow B 2 1 (.slice av nv cv) (c4 kk) (zc (valsN y (c4 kk)))) (hv0 : ∀ k, (Value.slice av nv cv).ownBlock = some k → own k = 0) :
    Calls Tryz.prog 35 #[.pointer (some ⟨gw, 0, none⟩), .agg #[.int .i64 a, .int .i64 b], .agg #[.int .i64 ((kk : Int) + 1), .slice av nv cv]] w fun e w' => (∃ z, e = .returned (.int .i64 z)) ∧ Deeded w own gw N gs fr C w' := by
  have hn : nv = c4 kk := by
    obtain ⟨x, z, e⟩ := own_len ho
    simp only [Value.slice.injEq] at e
    exact e.2.1
  have e1 : ((kk + 1 : Nat) : Int) = (kk : Int) + 1 := by omega
  by_cases hbit : s.testBit (kk + 1) = true
  · have := h.set a b (kk + 1) s old (valsN y (c4 kk)) hc (by omega) (by show kk + 1 ≤ 4; omega) hbit av nv cv (Iz.own (l := valsN y (c4 kk)) (by rw [valsN_len]; exact ho)) (fun k e => ⟨hv0 k e, (ho.lt k e).2⟩) (by rw [hn, Nat.add_sub_cancel]; exact c4_fields hk) (valsN_fit _ _)
    rw [e1] at this
    refine this.mono ?_
    rintro e w' ⟨rfl, own', r1, r2⟩
    exact ⟨⟨0, rfl⟩, own', _, r1.up (by omega), r2, dom_same hc⟩
  · obtain ⟨hib, hl⟩ := h.inb hc
    have h0 := h
    obtain ⟨vk, gp, gm, gt, q, T, h1, h2, h3, h4, h5, h6⟩ := h
    refine (wset_err h1 a b ((kk : Int) + 1) hib h4.2.1 s (h2.1 _ s (fC_some hc)).1 (fun _ => fC_some hc) 62 ?_ (by omega) av nv cv).mono ?_
    · unfold hasE
      rw [if_pos hl, if_pos (⟨by omega, by show (kk : Int) + 1 ≤ 4; omega⟩), if_neg]
      rw [← e1, Int.toNat_natCast]
      exact hbit
    · rintro e w' ⟨rfl, hb⟩
      exact ⟨⟨_, rfl⟩, Deeded.same h0 hb⟩
end
end Go.Proofs.YtafmiolehlagkaaGreat

/-
  World: does: a deed.
-/
namespace Go.Proofs.YtafmiolehlagkaaGreat
open Go.RowKit
set_option maxRecDepth 100000
theorem box4 {w W : World} {k : Nat} {a b c d : Int} (h : w.heap[k]? = some (.cells #[.int .i64 a, .int .i64 b, .int .i64 c, .int .i64 d] 69 (0, 0))) (hb : Below w.heap.size w W) : W.cell? ⟨k, 0, none⟩ = some (.int .i64 a) ∧ W.cell? ⟨k, 1, none⟩ = some (.int .i64 b) ∧ W.cell? ⟨k, 2, none⟩ = some (.int .i64 c) ∧ W.cell? ⟨k, 3, none⟩ = some (.int .i64 d) := by
  have h' : W.heap[k]? = some (.cells #[.int .i64 a, .int .i64 b, .int .i64 c, .int .i64 d] 69 (0, 0)) := (hb.block k (lt_of_block h)).trans h
  refine ⟨?_, ?_, ?_, ?_⟩ <;> rw [cell_of_row W k _ _ 69 (0, 0) h'] <;> rfl
section
variable {w : World} {own : Nat → Nat} {gw N : Nat} {gs fr : List Nat} {C : Co}
set_option maxHeartbeats 8000000 in
theorem does2 (h : Wn w own gw N usualK gs fr C) (hN : N ≤ 800000) (A : List (Nat × Nat)) (B : Nat) (v : Value) (hA : w.ownsRow B 29 2 v A.length (ec A)) (hn : A.length ≤ 1000) (h0 : 0 < A.length) (_hA0 : ∀ k, v.ownBlock = some k → own k = 0) (hal : ∀ p ∈ A, (C ((p.1 : Int), (p.2 : Int))).isSome = true) (who what y : Int) (h3 : -9223372036854775808 ≤ who) (h4 : who ≤ 9223372036854775807) (h5 : -9223372036854775808 ≤ what) (h6 : what ≤ 9223372036854775807) :
    Calls Tryz.prog 21 #[.pointer (some ⟨gw, 0, none⟩), v, .agg #[.int .i64 2, .int .i64 who, .int .i64 what, .int .i64 y]] w fun e w' => ∃ z, e = .returned (.tuple #[v, .int .i64 z]) ∧ Deeded w own gw N gs fr C w' := by
  obtain ⟨g, c, rfl, hc1, hc2⟩ := own_form hA h0
  obtain ⟨n, hnA⟩ : ∃ n, n = A.length := ⟨_, rfl⟩
  obtain ⟨i, hi⟩ : ∃ i, i = pk who n := ⟨_, rfl⟩
  have hlt : i < n := hi ▸ pk_lt who (by omega)
  have hm : A[i] ∈ A := List.getElem_mem (by omega)
  have hap := hal _ hm
  obtain ⟨w1, hw1⟩ : ∃ X, X = w.alloc (.cells #[.int .i64 2, .int .i64 who, .int .i64 what, .int .i64 y] 69) := ⟨_, rfl⟩
  have B1 : Below w.heap.size w w1 := hw1 ▸ below_alloc w _
  have x1 : w1.heap[w.heap.size]? = some (.cells #[.int .i64 2, .int .i64 who, .int .i64 what, .int .i64 y] 69 (0, 0)) := by rw [hw1]; exact heap_alloc_new w _
  rw [← hnA] at hA h0 hn ⊢
  have hA1 := own_later hA B1
  obtain ⟨y1, y2⟩ := i_own_ent hA1 i (by omega)
  generalize A[i] = p at *
  obtain ⟨pa, pb⟩ := p
  dsimp only at y1 y2 hap
  obtain ⟨⟨s, old⟩, hc⟩ := Option.isSome_iff_exists.1 hap
  obtain ⟨kk, hk⟩ : ∃ kk, kk = pk what 4 := ⟨_, rfl⟩
  have hkk : kk < 4 := hk ▸ pk_lt what (by omega)
  have J5 : Hid (∀ W, Calls Tryz.prog 16 #[.int .i64 2, .int .i64 5] W fun e w' => e = .returned (.int .i64 2) ∧ w' = W) := fun W => pick_any 2 5 W (by omega) (by omega) (by omega) (by omega)
  have JW : Hid (∀ W, Calls Tryz.prog 16 #[.int .i64 who, .int .i64 (n : Int)] W fun e w' => e = .returned (.int .i64 (i : Int)) ∧ w' = W) := fun W => hi ▸ pick_any who n W h3 h4 (by omega) (by omega)
  obtain ⟨w2, hw2⟩ : ∃ X, X = w1.alloc (.cells #[.int .i64 (pa : Int), .int .i64 (pb : Int)] 29) := ⟨_, rfl⟩
  have B2 : Below w1.heap.size w1 w2 := hw2 ▸ below_alloc w1 _
  have x2 : w2.heap[w1.heap.size]? = some (.cells #[.int .i64 (pa : Int), .int .i64 (pb : Int)] 29 (0, 0)) := by rw [hw2]; exact heap_alloc_new w1 _
  obtain ⟨kx, hkx⟩ : ∃ k, k = w.heap.size := ⟨_, rfl⟩
  obtain ⟨ky, hky⟩ : ∃ k, k = w1.heap.size := ⟨_, rfl⟩
  rw [← hky] at x2
  rw [← hkx] at x1
  have X1 : Hid (w2.heap[kx]? = some (.cells #[.int .i64 2, .int .i64 who, .int .i64 what, .int .i64 y] 69 (0, 0))) := (B2.block kx (lt_of_block x1)).trans x1
  have X2 := hide x2
  have H2 := hide (h.later (below_on B1 B2))
  have hsw : w.heap.size ≤ w1.heap.size := B1.size
  have HK : Hid (∀ W, Below w2.heap.size w2 W → ∀ w', Deeded W (rel (rel own w 0) w2 0) gw N gs fr C w' → Hid (Deeded w own gw N gs fr C w') ∧ w'.cell? ⟨kx, 2, none⟩ = some (.int .i64 what) ∧ w'.cell? ⟨kx, 3, none⟩ = some (.int .i64 y) ∧ w'.cell? ⟨ky, 0, none⟩ = some (.int .i64 (pa : Int)) ∧ w'.cell? ⟨ky, 1, none⟩ = some (.int .i64 (pb : Int))) := fun W hW w' hd => by
    obtain ⟨own', C', r1, r2, r3⟩ := hd
    have e1 := wk_at r2 ((hW.block kx (lt_of_block X1.out)).trans X1.out) ((rel_old (lt_of_block X1.out)).trans (rel_new (by omega)))
    have e2 := wk_at r2 ((hW.block ky (lt_of_block X2.out)).trans X2.out) ((rel_old (lt_of_block X2.out)).trans (rel_new (by omega)))
    obtain ⟨-, -, z2, z3⟩ := box4 e1.1 (Below.refl _ w')
    obtain ⟨z4, z5⟩ := kx_cells e2.1 (Below.refl _ w')
    exact ⟨⟨own', C', r1, ((Wk.later (below_on B1 B2)).trans (Wk.later hW)).trans r2, r3⟩, z2, z3, z4, z5⟩
  clear h hal hap hA hA1 hm hc1 hi B1 B2 x2
  obtain ⟨b0, b1, -, -⟩ := box4 x1 (Below.refl _ w1)
  obtain ⟨a0, -, a2, a3⟩ := box4 X1.out (Below.refl _ w2)
  obtain ⟨a4, a5⟩ := kx_cells X2.out (Below.refl _ w2)
  clear x1
  have JP : Hid (∀ W, Below w2.heap.size w2 W → Calls Tryz.prog 23 #[.int .i64 what, .int .i64 y] W fun e w' => ∃ v, e = .returned (.agg #[.int .i64 ((kk : Int) + 1), v]) ∧ Hid (w'.ownsRow W.heap.size 2 1 v (c4 kk) (zc (valsN y (c4 kk)))) ∧ Hid (Below W.heap.size W w') ∧ Hid (Below w2.heap.size w2 w') ∧ (w'.cell? ⟨kx, 2, none⟩ = some (.int .i64 what) ∧ w'.cell? ⟨kx, 3, none⟩ = some (.int .i64 y) ∧ w'.cell? ⟨ky, 0, none⟩ = some (.int .i64 (pa : Int)) ∧ w'.cell? ⟨ky, 1, none⟩ = some (.int .i64 (pb : Int)))) := fun W hW => by
    refine (hk ▸ part_any what y W h5 h6 : Calls Tryz.prog 23 #[.int .i64 what, .int .i64 y] W fun e w' => ∃ v, e = .returned (.agg #[.int .i64 ((kk : Nat) + 1 : Int), v]) ∧ w'.ownsRow W.heap.size 2 1 v (c4 kk) (zc (valsN y (c4 kk))) ∧ Below W.heap.size W w').mono ?_
    rintro e w' ⟨v, rfl, ho, hb⟩
    have hb2 := below_on hW hb
    obtain ⟨-, -, z2, z3⟩ := box4 X1.out hb2
    obtain ⟨z4, z5⟩ := kx_cells X2.out hb2
    exact ⟨v, rfl, ho, hb, hb2, z2, z3, z4, z5⟩
  have J9 : Hid (∀ (W0 W : World) (av : Option Addr) (nv cv : Nat), Below w2.heap.size w2 W0 → Below W0.heap.size W0 W → W.ownsRow W0.heap.size 2 1 (.slice av nv cv) (c4 kk) (zc (valsN y (c4 kk))) → Calls Tryz.prog 27 #[.pointer (some ⟨gw, 0, none⟩), .agg #[.int .i64 (pa : Int), .int .i64 (pb : Int)], .agg #[.int .i64 ((kk : Int) + 1), .slice av nv cv]] W fun e w' => ∃ z, e = .returned (.int .i64 z) ∧ Hid (Deeded w own gw N gs fr C w') ∧ (w'.cell? ⟨kx, 2, none⟩ = some (.int .i64 what) ∧ w'.cell? ⟨kx, 3, none⟩ = some (.int .i64 y) ∧ w'.cell? ⟨ky, 0, none⟩ = some (.int .i64 (pa : Int)) ∧ w'.cell? ⟨ky, 1, none⟩ = some (.int .i64 (pb : Int)))) := fun W0 W av nv cv hW0 hW ho => by
    have hWW := below_on hW0 hW
    refine ((H2.out.later hWW).add_some hN pa pb s old hc kk hkk y W0.heap.size av nv cv ho (fun k e => rel_new (Nat.le_trans hW0.size (ho.lt k e).1))).mono ?_
    rintro e w' ⟨⟨z, rfl⟩, hd⟩
    obtain ⟨q1, q2, q3, q4⟩ := HK.out W hWW _ hd
    exact ⟨z, rfl, q1, q2, q3, q4⟩
  have e4 : IntKind.i64.wrap (1 + (kk : Int)) = (kk : Int) + 1 := by rw [IntKind.wrap_i64]; omega
  clear hnA hk h5 h6 h3 h4 hc X1 X2 H2 HK hsw hkk
  go_enter Tryz.func21, Tryz.ntmps21
  go_upto_region 1 with fail
  rw [← hw1, ← hkx]
  clear hw1 hkx
  have HKY := hide hky
  have HW2 := hide hw2
  clear hky hw2
  have t0 : ¬ (n : Int) = 0 := by omega
  have t00 : ((n : Int) == 0) = false := by rw [beq_eq_false_iff_ne]; exact t0
  have t1 : (i : Int) < (n : Int) := by omega
  have t2 : (0 : Int) ≤ (i : Int) := by omega
  go_wp2_with fail
  refine (J5.out _).mono ?_
  rintro e w5 ⟨rfl, h5⟩
  rw [h5]
  clear h5 w5
  go_wp2_with fail
  refine (JW.out _).mono ?_
  rintro e w5 ⟨rfl, h5⟩
  rw [h5]
  clear h5 w5
  go_upto_region 7 with fail
  rw [← HW2.out, ← HKY.out]
  clear HW2 HKY y1 y2 b0 b1
  go_wp2_with fail
  refine (J5.out _).mono ?_
  rintro e w5 ⟨rfl, h5⟩
  rw [h5]
  clear h5 w5
  go_upto_region 11 with fail
  go_region_held3 (fun W => W.cell? ⟨kx, 2, none⟩ = some (.int .i64 what) ∧ W.cell? ⟨kx, 3, none⟩ = some (.int .i64 y) ∧ W.cell? ⟨ky, 0, none⟩ = some (.int .i64 (pa : Int)) ∧ W.cell? ⟨ky, 1, none⟩ = some (.int .i64 (pb : Int))) (go_keep) (first | (go_at_call 23; refine (JP.out _ (below_drew w2)).mono ?_; rintro e w5 ⟨v5, rfl, HO5, HB5, HC5, k2, k3, k4, k5⟩; obtain ⟨av, nv, cv, rfl⟩ := own_slice HO5.out) | (go_at_call 27; refine (J9.out _ _ _ _ _ (below_drew w2) HB5.out HO5.out).mono ?_; rintro e w6 ⟨z, rfl, HD, k2', k3', k4', k5'⟩))
  go_wp2_with fail
  go_ret2
  exact ⟨_, rfl, HD.out⟩
set_option maxHeartbeats 8000000 in
theorem does3 (h : Wn w own gw N usualK gs fr C) (hN : N ≤ 800000) (A : List (Nat × Nat)) (B : Nat) (v : Value) (hA : w.ownsRow B 29 2 v A.length (ec A)) (hn : A.length ≤ 1000) (h0 : 0 < A.length) (_hA0 : ∀ k, v.ownBlock = some k → own k = 0) (hal : ∀ p ∈ A, (C ((p.1 : Int), (p.2 : Int))).isSome = true) (who what y : Int) (h3 : -9223372036854775808 ≤ who) (h4 : who ≤ 9223372036854775807) (h5 : -9223372036854775808 ≤ what) (h6 : what ≤ 9223372036854775807) :
    Calls Tryz.prog 21 #[.pointer (some ⟨gw, 0, none⟩), v, .agg #[.int .i64 3, .int .i64 who, .int .i64 what, .int .i64 y]] w fun e w' => ∃ z, e = .returned (.tuple #[v, .int .i64 z]) ∧ Deeded w own gw N gs fr C w' := by
  obtain ⟨g, c, rfl, hc1, hc2⟩ := own_form hA h0
  obtain ⟨n, hnA⟩ : ∃ n, n = A.length := ⟨_, rfl⟩
  obtain ⟨i, hi⟩ : ∃ i, i = pk who n := ⟨_, rfl⟩
  have hlt : i < n := hi ▸ pk_lt who (by omega)
  have hm : A[i] ∈ A := List.getElem_mem (by omega)
  have hap := hal _ hm
  obtain ⟨w1, hw1⟩ : ∃ X, X = w.alloc (.cells #[.int .i64 3, .int .i64 who, .int .i64 what, .int .i64 y] 69) := ⟨_, rfl⟩
  have B1 : Below w.heap.size w w1 := hw1 ▸ below_alloc w _
  have x1 : w1.heap[w.heap.size]? = some (.cells #[.int .i64 3, .int .i64 who, .int .i64 what, .int .i64 y] 69 (0, 0)) := by rw [hw1]; exact heap_alloc_new w _
  rw [← hnA] at hA h0 hn ⊢
  have hA1 := own_later hA B1
  obtain ⟨y1, y2⟩ := i_own_ent hA1 i (by omega)
  generalize A[i] = p at *
  obtain ⟨pa, pb⟩ := p
  dsimp only at y1 y2 hap
  obtain ⟨⟨s, old⟩, hc⟩ := Option.isSome_iff_exists.1 hap
  obtain ⟨kk, hk⟩ : ∃ kk, kk = pk what 4 := ⟨_, rfl⟩
  have hkk : kk < 4 := hk ▸ pk_lt what (by omega)
  have J5 : Hid (∀ W, Calls Tryz.prog 16 #[.int .i64 3, .int .i64 5] W fun e w' => e = .returned (.int .i64 3) ∧ w' = W) := fun W => pick_any 3 5 W (by omega) (by omega) (by omega) (by omega)
  have JW : Hid (∀ W, Calls Tryz.prog 16 #[.int .i64 who, .int .i64 (n : Int)] W fun e w' => e = .returned (.int .i64 (i : Int)) ∧ w' = W) := fun W => hi ▸ pick_any who n W h3 h4 (by omega) (by omega)
  obtain ⟨w2, hw2⟩ : ∃ X, X = w1.alloc (.cells #[.int .i64 (pa : Int), .int .i64 (pb : Int)] 29) := ⟨_, rfl⟩
  have B2 : Below w1.heap.size w1 w2 := hw2 ▸ below_alloc w1 _
  have x2 : w2.heap[w1.heap.size]? = some (.cells #[.int .i64 (pa : Int), .int .i64 (pb : Int)] 29 (0, 0)) := by rw [hw2]; exact heap_alloc_new w1 _
  obtain ⟨kx, hkx⟩ : ∃ k, k = w.heap.size := ⟨_, rfl⟩
  obtain ⟨ky, hky⟩ : ∃ k, k = w1.heap.size := ⟨_, rfl⟩
  rw [← hky] at x2
  rw [← hkx] at x1
  have X1 : Hid (w2.heap[kx]? = some (.cells #[.int .i64 3, .int .i64 who, .int .i64 what, .int .i64 y] 69 (0, 0))) := (B2.block kx (lt_of_block x1)).trans x1
  have X2 := hide x2
  have H2 := hide (h.later (below_on B1 B2))
  have hsw : w.heap.size ≤ w1.heap.size := B1.size
  have HK : Hid (∀ W, Below w2.heap.size w2 W → ∀ w', Deeded W (rel (rel own w 0) w2 0) gw N gs fr C w' → Hid (Deeded w own gw N gs fr C w') ∧ w'.cell? ⟨kx, 2, none⟩ = some (.int .i64 what) ∧ w'.cell? ⟨kx, 3, none⟩ = some (.int .i64 y) ∧ w'.cell? ⟨ky, 0, none⟩ = some (.int .i64 (pa : Int)) ∧ w'.cell? ⟨ky, 1, none⟩ = some (.int .i64 (pb : Int))) := fun W hW w' hd => by
    obtain ⟨own', C', r1, r2, r3⟩ := hd
    have e1 := wk_at r2 ((hW.block kx (lt_of_block X1.out)).trans X1.out) ((rel_old (lt_of_block X1.out)).trans (rel_new (by omega)))
    have e2 := wk_at r2 ((hW.block ky (lt_of_block X2.out)).trans X2.out) ((rel_old (lt_of_block X2.out)).trans (rel_new (by omega)))
    obtain ⟨-, -, z2, z3⟩ := box4 e1.1 (Below.refl _ w')
    obtain ⟨z4, z5⟩ := kx_cells e2.1 (Below.refl _ w')
    exact ⟨⟨own', C', r1, ((Wk.later (below_on B1 B2)).trans (Wk.later hW)).trans r2, r3⟩, z2, z3, z4, z5⟩
  clear h hal hap hA hA1 hm hc1 hi B1 B2 x2
  obtain ⟨b0, b1, -, -⟩ := box4 x1 (Below.refl _ w1)
  obtain ⟨a0, -, a2, a3⟩ := box4 X1.out (Below.refl _ w2)
  obtain ⟨a4, a5⟩ := kx_cells X2.out (Below.refl _ w2)
  clear x1
  have J4 : Hid (∀ W, Calls Tryz.prog 16 #[.int .i64 what, .int .i64 4] W fun e w' => e = .returned (.int .i64 (kk : Int)) ∧ w' = W) := fun W => hk ▸ pick_any what 4 W h5 h6 (by omega) (by omega)
  have J9 : Hid (∀ W, Below w2.heap.size w2 W → Calls Tryz.prog 26 #[.pointer (some ⟨gw, 0, none⟩), .agg #[.int .i64 (pa : Int), .int .i64 (pb : Int)], .int .i64 ((kk : Int) + 1)] W fun e w' => ∃ z, e = .returned (.int .i64 z) ∧ Hid (Deeded w own gw N gs fr C w') ∧ (w'.cell? ⟨kx, 2, none⟩ = some (.int .i64 what) ∧ w'.cell? ⟨ky, 0, none⟩ = some (.int .i64 (pa : Int)) ∧ w'.cell? ⟨ky, 1, none⟩ = some (.int .i64 (pb : Int)))) := fun W hW => by
    refine ((H2.out.later hW).remove_some hN pa pb s old hc kk hkk).mono ?_
    rintro e w' ⟨⟨z, rfl⟩, hd⟩
    obtain ⟨q1, q2, q3, q4⟩ := HK.out W hW _ hd
    exact ⟨z, rfl, q1, q2, q4⟩
  have e4 : IntKind.i64.wrap (1 + (kk : Int)) = (kk : Int) + 1 := by rw [IntKind.wrap_i64]; omega
  clear hnA hk h5 h6 h3 h4 hc X1 X2 H2 HK hsw hkk
  go_enter Tryz.func21, Tryz.ntmps21
  go_upto_region 1 with fail
  rw [← hw1, ← hkx]
  clear hw1 hkx
  have HKY := hide hky
  have HW2 := hide hw2
  clear hky hw2
  have t0 : ¬ (n : Int) = 0 := by omega
  have t00 : ((n : Int) == 0) = false := by rw [beq_eq_false_iff_ne]; exact t0
  have t1 : (i : Int) < (n : Int) := by omega
  have t2 : (0 : Int) ≤ (i : Int) := by omega
  go_wp2_with fail
  refine (J5.out _).mono ?_
  rintro e w5 ⟨rfl, h5⟩
  rw [h5]
  clear h5 w5
  go_wp2_with fail
  refine (JW.out _).mono ?_
  rintro e w5 ⟨rfl, h5⟩
  rw [h5]
  clear h5 w5
  go_upto_region 7 with fail
  rw [← HW2.out, ← HKY.out]
  clear HW2 HKY y1 y2 b0 b1
  go_wp2_with fail
  refine (J5.out _).mono ?_
  rintro e w5 ⟨rfl, h5⟩
  rw [h5]
  clear h5 w5
  go_upto_region 13 with fail
  go_region_held3 (fun W => W.cell? ⟨kx, 2, none⟩ = some (.int .i64 what) ∧ W.cell? ⟨ky, 0, none⟩ = some (.int .i64 (pa : Int)) ∧ W.cell? ⟨ky, 1, none⟩ = some (.int .i64 (pb : Int))) (go_keep) (first | (go_at_call 16; refine (J4.out _).mono ?_; rintro e w5 ⟨rfl, rfl⟩) | (go_at_call 26; refine (J9.out _ (below_drew w2)).mono ?_; rintro e w6 ⟨z, rfl, HD, k2, k3, k4⟩))
  go_wp2_with fail
  go_ret2
  exact ⟨_, rfl, HD.out⟩
set_option maxHeartbeats 8000000 in
theorem does4 (h : Wn w own gw N usualK gs fr C) (_hN : N ≤ 800000) (A : List (Nat × Nat)) (B : Nat) (v : Value) (hA : w.ownsRow B 29 2 v A.length (ec A)) (hn : A.length ≤ 1000) (h0 : 0 < A.length) (_hA0 : ∀ k, v.ownBlock = some k → own k = 0) (hal : ∀ p ∈ A, (C ((p.1 : Int), (p.2 : Int))).isSome = true) (who what y : Int) (h3 : -9223372036854775808 ≤ who) (h4 : who ≤ 9223372036854775807) (h5 : -9223372036854775808 ≤ what) (h6 : what ≤ 9223372036854775807) :
    Calls Tryz.prog 21 #[.pointer (some ⟨gw, 0, none⟩), v, .agg #[.int .i64 4, .int .i64 who, .int .i64 what, .int .i64 y]] w fun e w' => ∃ z, e = .returned (.tuple #[v, .int .i64 z]) ∧ Deeded w own gw N gs fr C w' := by
  obtain ⟨g, c, rfl, hc1, hc2⟩ := own_form hA h0
  obtain ⟨n, hnA⟩ : ∃ n, n = A.length := ⟨_, rfl⟩
  obtain ⟨i, hi⟩ : ∃ i, i = pk who n := ⟨_, rfl⟩
  have hlt : i < n := hi ▸ pk_lt who (by omega)
  have hm : A[i] ∈ A := List.getElem_mem (by omega)
  have hap := hal _ hm
  obtain ⟨w1, hw1⟩ : ∃ X, X = w.alloc (.cells #[.int .i64 4, .int .i64 who, .int .i64 what, .int .i64 y] 69) := ⟨_, rfl⟩
  have B1 : Below w.heap.size w w1 := hw1 ▸ below_alloc w _
  have x1 : w1.heap[w.heap.size]? = some (.cells #[.int .i64 4, .int .i64 who, .int .i64 what, .int .i64 y] 69 (0, 0)) := by rw [hw1]; exact heap_alloc_new w _
  rw [← hnA] at hA h0 hn ⊢
  have hA1 := own_later hA B1
  obtain ⟨y1, y2⟩ := i_own_ent hA1 i (by omega)
  generalize A[i] = p at *
  obtain ⟨pa, pb⟩ := p
  dsimp only at y1 y2 hap
  obtain ⟨⟨s, old⟩, hc⟩ := Option.isSome_iff_exists.1 hap
  obtain ⟨kk, hk⟩ : ∃ kk, kk = pk what 4 := ⟨_, rfl⟩
  have hkk : kk < 4 := hk ▸ pk_lt what (by omega)
  have J5 : Hid (∀ W, Calls Tryz.prog 16 #[.int .i64 4, .int .i64 5] W fun e w' => e = .returned (.int .i64 4) ∧ w' = W) := fun W => pick_any 4 5 W (by omega) (by omega) (by omega) (by omega)
  have JW : Hid (∀ W, Calls Tryz.prog 16 #[.int .i64 who, .int .i64 (n : Int)] W fun e w' => e = .returned (.int .i64 (i : Int)) ∧ w' = W) := fun W => hi ▸ pick_any who n W h3 h4 (by omega) (by omega)
  obtain ⟨w2, hw2⟩ : ∃ X, X = w1.alloc (.cells #[.int .i64 (pa : Int), .int .i64 (pb : Int)] 29) := ⟨_, rfl⟩
  have B2 : Below w1.heap.size w1 w2 := hw2 ▸ below_alloc w1 _
  have x2 : w2.heap[w1.heap.size]? = some (.cells #[.int .i64 (pa : Int), .int .i64 (pb : Int)] 29 (0, 0)) := by rw [hw2]; exact heap_alloc_new w1 _
  obtain ⟨kx, hkx⟩ : ∃ k, k = w.heap.size := ⟨_, rfl⟩
  obtain ⟨ky, hky⟩ : ∃ k, k = w1.heap.size := ⟨_, rfl⟩
  rw [← hky] at x2
  rw [← hkx] at x1
  have X1 : Hid (w2.heap[kx]? = some (.cells #[.int .i64 4, .int .i64 who, .int .i64 what, .int .i64 y] 69 (0, 0))) := (B2.block kx (lt_of_block x1)).trans x1
  have X2 := hide x2
  have H2 := hide (h.later (below_on B1 B2))
  have hsw : w.heap.size ≤ w1.heap.size := B1.size
  have HK : Hid (∀ W, Below w2.heap.size w2 W → ∀ w', Deeded W (rel (rel own w 0) w2 0) gw N gs fr C w' → Hid (Deeded w own gw N gs fr C w') ∧ w'.cell? ⟨kx, 2, none⟩ = some (.int .i64 what) ∧ w'.cell? ⟨kx, 3, none⟩ = some (.int .i64 y) ∧ w'.cell? ⟨ky, 0, none⟩ = some (.int .i64 (pa : Int)) ∧ w'.cell? ⟨ky, 1, none⟩ = some (.int .i64 (pb : Int))) := fun W hW w' hd => by
    obtain ⟨own', C', r1, r2, r3⟩ := hd
    have e1 := wk_at r2 ((hW.block kx (lt_of_block X1.out)).trans X1.out) ((rel_old (lt_of_block X1.out)).trans (rel_new (by omega)))
    have e2 := wk_at r2 ((hW.block ky (lt_of_block X2.out)).trans X2.out) ((rel_old (lt_of_block X2.out)).trans (rel_new (by omega)))
    obtain ⟨-, -, z2, z3⟩ := box4 e1.1 (Below.refl _ w')
    obtain ⟨z4, z5⟩ := kx_cells e2.1 (Below.refl _ w')
    exact ⟨⟨own', C', r1, ((Wk.later (below_on B1 B2)).trans (Wk.later hW)).trans r2, r3⟩, z2, z3, z4, z5⟩
  clear h hal hap hA hA1 hm hc1 hi B1 B2 x2
  obtain ⟨b0, b1, -, -⟩ := box4 x1 (Below.refl _ w1)
  obtain ⟨a0, -, a2, a3⟩ := box4 X1.out (Below.refl _ w2)
  obtain ⟨a4, a5⟩ := kx_cells X2.out (Below.refl _ w2)
  clear x1
  have JP : Hid (∀ W, Below w2.heap.size w2 W → Calls Tryz.prog 23 #[.int .i64 what, .int .i64 y] W fun e w' => ∃ v, e = .returned (.agg #[.int .i64 ((kk : Int) + 1), v]) ∧ Hid (w'.ownsRow W.heap.size 2 1 v (c4 kk) (zc (valsN y (c4 kk)))) ∧ Hid (Below W.heap.size W w') ∧ Hid (Below w2.heap.size w2 w') ∧ (w'.cell? ⟨kx, 2, none⟩ = some (.int .i64 what) ∧ w'.cell? ⟨kx, 3, none⟩ = some (.int .i64 y) ∧ w'.cell? ⟨ky, 0, none⟩ = some (.int .i64 (pa : Int)) ∧ w'.cell? ⟨ky, 1, none⟩ = some (.int .i64 (pb : Int)))) := fun W hW => by
    refine (hk ▸ part_any what y W h5 h6 : Calls Tryz.prog 23 #[.int .i64 what, .int .i64 y] W fun e w' => ∃ v, e = .returned (.agg #[.int .i64 ((kk : Nat) + 1 : Int), v]) ∧ w'.ownsRow W.heap.size 2 1 v (c4 kk) (zc (valsN y (c4 kk))) ∧ Below W.heap.size W w').mono ?_
    rintro e w' ⟨v, rfl, ho, hb⟩
    have hb2 := below_on hW hb
    obtain ⟨-, -, z2, z3⟩ := box4 X1.out hb2
    obtain ⟨z4, z5⟩ := kx_cells X2.out hb2
    exact ⟨v, rfl, ho, hb, hb2, z2, z3, z4, z5⟩
  have J9 : Hid (∀ (W0 W : World) (av : Option Addr) (nv cv : Nat), Below w2.heap.size w2 W0 → Below W0.heap.size W0 W → W.ownsRow W0.heap.size 2 1 (.slice av nv cv) (c4 kk) (zc (valsN y (c4 kk))) → Calls Tryz.prog 35 #[.pointer (some ⟨gw, 0, none⟩), .agg #[.int .i64 (pa : Int), .int .i64 (pb : Int)], .agg #[.int .i64 ((kk : Int) + 1), .slice av nv cv]] W fun e w' => ∃ z, e = .returned (.int .i64 z) ∧ Hid (Deeded w own gw N gs fr C w') ∧ (w'.cell? ⟨kx, 2, none⟩ = some (.int .i64 what) ∧ w'.cell? ⟨kx, 3, none⟩ = some (.int .i64 y) ∧ w'.cell? ⟨ky, 0, none⟩ = some (.int .i64 (pa : Int)) ∧ w'.cell? ⟨ky, 1, none⟩ = some (.int .i64 (pb : Int)))) := fun W0 W av nv cv hW0 hW ho => by
    have hWW := below_on hW0 hW
    refine ((H2.out.later hWW).set_some pa pb s old hc kk hkk y W0.heap.size av nv cv ho (fun k e => rel_new (Nat.le_trans hW0.size (ho.lt k e).1))).mono ?_
    rintro e w' ⟨⟨z, rfl⟩, hd⟩
    obtain ⟨q1, q2, q3, q4⟩ := HK.out W hWW _ hd
    exact ⟨z, rfl, q1, q2, q3, q4⟩
  have e4 : IntKind.i64.wrap (1 + (kk : Int)) = (kk : Int) + 1 := by rw [IntKind.wrap_i64]; omega
  clear hnA hk h5 h6 h3 h4 hc X1 X2 H2 HK hsw hkk
  go_enter Tryz.func21, Tryz.ntmps21
  go_upto_region 1 with fail
  rw [← hw1, ← hkx]
  clear hw1 hkx
  have HKY := hide hky
  have HW2 := hide hw2
  clear hky hw2
  have t0 : ¬ (n : Int) = 0 := by omega
  have t00 : ((n : Int) == 0) = false := by rw [beq_eq_false_iff_ne]; exact t0
  have t1 : (i : Int) < (n : Int) := by omega
  have t2 : (0 : Int) ≤ (i : Int) := by omega
  go_wp2_with fail
  refine (J5.out _).mono ?_
  rintro e w5 ⟨rfl, h5⟩
  rw [h5]
  clear h5 w5
  go_wp2_with fail
  refine (JW.out _).mono ?_
  rintro e w5 ⟨rfl, h5⟩
  rw [h5]
  clear h5 w5
  go_upto_region 7 with fail
  rw [← HW2.out, ← HKY.out]
  clear HW2 HKY y1 y2 b0 b1
  go_wp2_with fail
  refine (J5.out _).mono ?_
  rintro e w5 ⟨rfl, h5⟩
  rw [h5]
  clear h5 w5
  go_upto_region 14 with fail
  go_region_held3 (fun W => W.cell? ⟨kx, 2, none⟩ = some (.int .i64 what) ∧ W.cell? ⟨kx, 3, none⟩ = some (.int .i64 y) ∧ W.cell? ⟨ky, 0, none⟩ = some (.int .i64 (pa : Int)) ∧ W.cell? ⟨ky, 1, none⟩ = some (.int .i64 (pb : Int))) (go_keep) (first | (go_at_call 23; refine (JP.out _ (below_drew w2)).mono ?_; rintro e w5 ⟨v5, rfl, HO5, HB5, HC5, k2, k3, k4, k5⟩; obtain ⟨av, nv, cv, rfl⟩ := own_slice HO5.out) | (go_at_call 35; refine (J9.out _ _ _ _ _ (below_drew w2) HB5.out HO5.out).mono ?_; rintro e w6 ⟨z, rfl, HD, k2', k3', k4', k5'⟩))
  go_wp2_with fail
  go_ret2
  exact ⟨_, rfl, HD.out⟩
end
end Go.Proofs.YtafmiolehlagkaaGreat

/-
  World: does: the first one comes.
-/
namespace Go.Proofs.YtafmiolehlagkaaGreat
open Go.RowKit
set_option maxRecDepth 100000
section
variable {w w2 w3 : World} {own : Nat → Nat} {gw N : Nat} {gs fr : List Nat} {C : Co}
/-- A Spawn of one part, where there is room. -/
theorem Wn.spawn_one (h : Wn w own gw N usualK gs fr C) (hN : N ≤ 800000) (hroom : fr ≠ [] ∨ gs.length < 200) (hb : Below w.heap.size w w2) (kk : Nat) (hk : kk < 4) (y : Int) (a : Option Addr) (n c : Nat) (ho : w2.ownsRow w.heap.size 2 1 (.slice a n c) (c4 kk) (zc (valsN y (c4 kk)))) (hw3 : w3 = w2.alloc (.cells #[.int .i64 ((kk : Int) + 1), .slice a n c] 32)) :
    Calls Tryz.prog 24 #[.pointer (some ⟨gw, 0, none⟩), .slice (some ⟨w2.heap.size, 0, none⟩) 1 1] w3 fun e w' => ∃ p : Nat × Nat, e = .returned (.tuple #[.agg #[.int .i64 (p.1 : Int), .int .i64 (p.2 : Int)], .int .i64 0]) ∧ ∃ own' gs' fr' C', Wn w' own' gw (N + 3) usualK gs' fr' C' ∧ Wk own own' w w' ∧ (C' ((p.1 : Int), (p.2 : Int))).isSome = true := by
  have hb3 : Below w2.heap.size w2 w3 := hw3 ▸ below_alloc w2 _
  have hx3 : w3.heap[w2.heap.size]? = some (.cells #[.int .i64 ((kk : Int) + 1), .slice a n c] 32 (0, 0)) := by rw [hw3]; exact heap_alloc_new w2 _
  have h3 := h.later (below_on hb hb3)
  have ho3 := own_later ho hb3
  have hn : n = c4 kk := by
    obtain ⟨x, z, e⟩ := own_len ho
    simp only [Value.slice.injEq] at e
    exact e.2.1
  have hrp : Rp w3 (.slice (some ⟨w2.heap.size, 0, none⟩) 1 1) [((kk : Int) + 1, a, n, c)] := by
    refine .inr ⟨_, 0, 1, rfl, Nat.le_refl 1, by unfold maxLen; omega, fun j u hj => ?_⟩
    rw [Nat.zero_add, cell_of_row w3 _ j _ 32 (0, 0) hx3]
    simpa [pz] using hj
  have hcome := one_come kk hk a n c hn
  have hsb := hb.size
  have hlt := lt_of_block hx3
  refine (h3.spawn (by omega) hroom _ [((kk : Int) + 1, a, n, c)] (fun _ => valsN y (c4 kk)) hrp hcome ?_ ?_ ?_ ?_).mono ?_
  · intro k e
    simp only [Value.ownBlock, Option.some.injEq] at e
    subst e
    exact ⟨rel_new hsb, hlt⟩
  · intro p hp
    rw [List.mem_singleton.1 hp]
    refine ⟨?_, fun e => ?_⟩
    · have := Iz.own (l := valsN y (c4 kk)) (by rw [valsN_len]; exact ho3)
      exact this
    · rcases ho3.2 with ⟨e', -⟩ | ⟨g, c', cur, e', -⟩
      · simp only [Value.slice.injEq] at e'
        exact Prod.ext e'.2.1 e'.2.2
      · simp only [Value.slice.injEq] at e'
        dsimp only at e
        rw [e] at e'
        cases e'.1
  · intro p hp k e
    rw [List.mem_singleton.1 hp] at e
    have := ho3.lt k e
    exact ⟨rel_new this.1, this.2⟩
  · intro p _
    exact valsN_fit _ _
  · rintro e w' ⟨rfl, vals, own', r1, r2, -⟩
    exact ⟨takeE gs fr, rfl, own', _, _, _, r1, (Wk.later (below_on hb hb3)).trans r2, by simp⟩
end
def First (w : World) (own : Nat → Nat) (gw N : Nat) (v' : Value) (w' : World) : Prop :=
  ∃ p own' gs' fr' C', Wn w' own' gw (N + 3) usualK gs' fr' C' ∧ Wk own own' w w' ∧ w'.ownsRow w.heap.size 29 2 v' 1 (ec [p]) ∧ (∀ k, v'.ownBlock = some k → own' k = 0) ∧ (C' ((p.1 : Int), (p.2 : Int))).isSome = true
section
variable {w : World} {own : Nat → Nat} {gw N : Nat} {gs fr : List Nat} {C : Co}
set_option maxHeartbeats 8000000 in
theorem does_first (h : Wn w own gw N usualK gs fr C) (hN : N ≤ 800000) (hroom : fr ≠ [] ∨ gs.length < 200) (kd who what y : Int) (h1 : -9223372036854775808 ≤ kd) (h2 : kd ≤ 9223372036854775807) (h5 : -9223372036854775808 ≤ what) (h6 : what ≤ 9223372036854775807) (hx : pk kd 5 ≠ 0) :
    Calls Tryz.prog 21 #[.pointer (some ⟨gw, 0, none⟩), .slice none 0 0, .agg #[.int .i64 kd, .int .i64 who, .int .i64 what, .int .i64 y]] w fun e w' => ∃ v', e = .returned (.tuple #[v', .int .i64 0]) ∧ First w own gw N v' w' := by
  obtain ⟨i29, hi29, hy0, hy1, hy2⟩ := info_parts info32
  obtain ⟨w1, hw1⟩ : ∃ X, X = w.alloc (.cells #[.int .i64 kd, .int .i64 who, .int .i64 what, .int .i64 y] 69) := ⟨_, rfl⟩
  have B1 : Hid (Below w.heap.size w w1) := hw1 ▸ below_alloc w _
  have x1 : w1.heap[w.heap.size]? = some (.cells #[.int .i64 kd, .int .i64 who, .int .i64 what, .int .i64 y] 69 (0, 0)) := by rw [hw1]; exact heap_alloc_new w _
  obtain ⟨kx, hkx⟩ : ∃ k, k = w.heap.size := ⟨_, rfl⟩
  rw [← hkx] at x1
  obtain ⟨b0, -, b2, b3⟩ := box4 x1 (Below.refl _ w1)
  have J5 := hide (pick_any kd 5 w1 h1 h2 (by omega) (by omega))
  have t5 : ((pk kd 5 : Int) == 0) = false := by rw [beq_eq_false_iff_ne]; omega
  generalize pk kd 5 = x at *
  have JPt := hide (part_any what y w1 h5 h6)
  have hk4 : pk what 4 < 4 := pk_lt what (by omega)
  generalize pk what 4 = kk at *
  have H := hide h
  have HR := hide hroom
  clear h hroom x1 h1 h2 h5 h6 hx
  go_enter Tryz.func21, Tryz.ntmps21
  go_upto_region 1 with fail
  rw [← hw1, ← hkx]
  clear hw1 hkx
  go_wp2_with fail
  refine J5.out.mono ?_
  rintro e w5 ⟨rfl, h5⟩
  rw [h5]
  clear h5 w5 J5
  go_wp2_with fail
  refine JPt.out.mono ?_
  rintro e w2 ⟨vp, rfl, ho2, hb2⟩
  obtain ⟨ap, np, cp, rfl⟩ := own_slice ho2
  obtain ⟨w3, hw3⟩ : ∃ X, X = w2.alloc (.cells #[.int .i64 ((kk : Int) + 1), .slice ap np cp] 32) := ⟨_, rfl⟩
  have JS := hide (H.out.spawn_one hN HR.out (below_on B1.out hb2) kk hk4 y ap np cp (own_lower ho2 B1.out.size) hw3)
  clear ho2 hb2 JPt H HR
  go_wp2_with fail
  rw [← hw3]
  refine JS.out.mono ?_
  rintro e w4 ⟨⟨pa, pb⟩, rfl, HX⟩
  have HX4 := hide HX
  dsimp only at HX4
  obtain ⟨w5, hw5⟩ : ∃ X, X = w4.alloc (.cells #[.int .i64 (pa : Int), .int .i64 (pb : Int)] 29) := ⟨_, rfl⟩
  have x5 : w5.heap[w4.heap.size]? = some (.cells #[.int .i64 (pa : Int), .int .i64 (pb : Int)] 29 (0, 0)) := by
    rw [hw5]
    exact heap_alloc_new w4 _
  have B5 : Hid (Below w4.heap.size w4 w5) := hw5 ▸ below_alloc w4 _
  obtain ⟨ky, hky⟩ : ∃ k, k = w4.heap.size := ⟨_, rfl⟩
  rw [← hky] at x5
  obtain ⟨z1, z2⟩ := kx_cells x5 (Below.refl _ w5)
  have HSZ : Hid (w.heap.size ≤ w5.heap.size + 1) := by
    obtain ⟨own', gs', fr', C', -, q2, -⟩ := HX
    have := q2.2.size
    have := B5.out.size
    unfold Hid
    omega
  have HO : Hid ((w5.alloc (.cells #[.int .i64 (pa : Int), .int .i64 (pb : Int)] 29)).ownsRow w.heap.size 29 2 (.slice none 0 0) 0 []) := World.ownsRow_nil _ _ _ _
  have HF : Hid (∀ (v9 : Value) (w9 : World), w9.ownsRow w.heap.size 29 2 v9 (0 + 1) ([] ++ [.int .i64 (pa : Int), .int .i64 (pb : Int)]) → (w5.alloc (.cells #[.int .i64 (pa : Int), .int .i64 (pb : Int)] 29)).grownBy w9 (Value.slice none 0 0).ownBlock → (v9.ownBlock = (Value.slice none 0 0).ownBlock ∨ v9.ownBlock = some (w5.heap.size + 1)) → First w own gw N v9 w9) := fun v9 w9 k1 k2 k3 => by
    obtain ⟨own', gs', fr', C', q1, q2, q3⟩ := HX4.out
    have hb6 := below_on B5.out (below_alloc w5 (.cells #[.int .i64 (pa : Int), .int .i64 (pb : Int)] 29))
    have hm : Mv (w5.alloc (.cells #[.int .i64 (pa : Int), .int .i64 (pb : Int)] 29)) w9 (fun _ => False) := (Mv.refl _ _).grown k2 (fun k _ e => by cases e)
    have hb9 : Below w4.heap.size w4 w9 := hb6.trans (hm.below hb6.size (fun _ e => e.elim))
    refine ⟨(pa, pb), _, gs', fr', C', q1.later hb9, q2.trans (Wk.later hb9), k1, fun k e => ?_, q3⟩
    rcases k3 with c | c
    · rw [c] at e
      cases e
    · rw [c] at e
      obtain rfl := Option.some.inj e
      have := B5.out.size
      exact rel_new (by omega)
  clear HX HX4 JS hw3 B5 x5 b0 b2 b3
  dsimp only
  go_upto_region 3 with fail
  rw [← hw5, ← hky]
  clear hw5 hky
  go_wp2_with (at_builtin; refine wpList_append_own_at _ rfl _ _ 39 rfl w.heap.size 29 i29 (.agg #[.int .i64 0, .int .i64 0]) 2 16 Tryz.underlying39 hi29 hy0 hy1 hy2 rfl (by decide) _ 0 [] rfl HO.out ⟨w5.heap.size, 0, none⟩ 1 1 [.int .i64 (pa : Int), .int .i64 (pb : Int)] rfl rfl ?n1 ?n2 ?n3 ?n4 ?n5 ?_)
  case n1 =>
    intro j u hj
    match j, hj with
    | 0, hj => simp at hj; subst hj; simp [Addr.add]
    | 1, hj => simp at hj; subst hj; simp [Addr.add]
  case n2 => first | exact ⟨rfl, rfl⟩ | (intro u hu; simp at hu; rcases hu with rfl | rfl <;> rfl)
  case n3 => unfold maxLen; omega
  case n4 => omega
  case n5 => first | exact HSZ.out | (simp; exact HSZ.out)
  intro v9 w9 ho9 hg9 _ ha9
  have H9 := hide (HF.out v9 w9 ho9 hg9 (by simpa using ha9))
  obtain ⟨a9, c9, rfl⟩ := own_len ho9
  clear ho9 hg9 ha9 HF HO HSZ z1 z2
  go_wp2_with fail
  go_ret2
  exact ⟨_, rfl, H9.out⟩
end
end Go.Proofs.YtafmiolehlagkaaGreat

/-
  World: what a world tells hangs on who lives with what alone.
-/
namespace Go.Proofs.YtafmiolehlagkaaGreat
open Go.RowKit
set_option maxRecDepth 100000
/-- Two lists that rise and have the same elements are the same. -/
theorem rise_ext {α : Type} (κ : α → Int) : ∀ (l l' : List α), l.Pairwise (fun x y => κ x < κ y) → l'.Pairwise (fun x y => κ x < κ y) → (∀ e, e ∈ l ↔ e ∈ l') → l = l'
  | [], [], _, _, _ => rfl
  | [], b :: t, _, _, h => by
    have := (h b).2 List.mem_cons_self
    cases this
  | a :: t, [], _, _, h => by
    have := (h a).1 List.mem_cons_self
    cases this
  | a :: t, b :: t', h1, h2, h => by
    obtain ⟨a1, a2⟩ := List.pairwise_cons.1 h1
    obtain ⟨b1, b2⟩ := List.pairwise_cons.1 h2
    have hab : a = b := by
      rcases List.mem_cons.1 ((h a).1 List.mem_cons_self) with e | e
      · exact e
      · rcases List.mem_cons.1 ((h b).2 List.mem_cons_self) with e' | e'
        · exact e'.symm
        · have := b1 a e
          have := a1 b e'
          omega
    subst hab
    refine congrArg _ (rise_ext κ t t' a2 b2 (fun e => ?_))
    constructor
    · intro he
      rcases List.mem_cons.1 ((h e).1 (List.mem_cons_of_mem _ he)) with e' | e'
      · subst e'
        have := a1 e he
        omega
      · exact e'
    · intro he
      rcases List.mem_cons.1 ((h e).2 (List.mem_cons_of_mem _ he)) with e' | e'
      · subst e'
        have := b1 e he
        omega
      · exact e'
/-- Who has the same parts has the same values. -/
theorem cont_ext {ks : List Kind} {s : Nat} {vals vals' : List Int} (h1 : vals.length = fsum ks s 1) (h2 : vals'.length = fsum ks s 1) (h : ∀ r, r ∈ partsL ks s 1 vals ↔ r ∈ partsL ks s 1 vals') : vals = vals' := by
  have e : partsL ks s 1 vals = partsL ks s 1 vals' := rise_ext (fun r => (r.1 : Int)) _ _ ((partsL_pair ks s 1 vals).imp (fun {x y} hxy => by omega)) ((partsL_pair ks s 1 vals').imp (fun {x y} hxy => by omega)) h
  rw [← partsL_flat ks s 1 vals h1, e, partsL_flat ks s 1 vals' h2]
theorem livers_rise {gs fr : List Nat} {C : Co} {E : List (Int × Int)} (hl : Lv gs fr C) (h : Livers (fC C) E) : E.Pairwise (fun x y => x.1 < y.1) := by
  obtain ⟨h1, h2, h3, h4⟩ := h
  refine (List.Pairwise.and h1 h2).imp_of_mem (fun {x y} hx hy hxy => ?_)
  by_cases c : x.1 = y.1
  · exfalso
    refine hxy.2 (Prod.ext c ?_)
    have k1 := (h3 x (h4 x hx)).2 hx
    have k2 := (h3 y (h4 y hy)).2 hy
    rw [fC_is, ← hl] at k1 k2
    obtain ⟨i, i1, -, -, i4⟩ := lives_at k1
    obtain ⟨j, j1, -, -, j4⟩ := lives_at k2
    have : i = j := by rw [i1, j1] at c; omega
    subst this
    exact i4.trans j4.symm
  · have := hxy.1
    omega
theorem livers_eq {gs fr : List Nat} {C : Co} {E E' : List (Int × Int)} (hl : Lv gs fr C) (h : Livers (fC C) E) (h' : Livers (fC C) E') : E = E' := by
  refine rise_ext (fun e => e.1) _ _ (livers_rise hl h) (livers_rise hl h') (fun e => ?_)
  constructor
  · intro he
    exact (h'.2.2.1 e (h.2.2.2 e he)).1 ((h.2.2.1 e (h.2.2.2 e he)).2 he)
  · intro he
    exact (h.2.2.1 e (h'.2.2.2 e he)).1 ((h'.2.2.1 e (h'.2.2.2 e he)).2 he)
section
variable {w w' : World} {own own2 : Nat → Nat} {gw gw2 N N2 : Nat} {ks : List Kind} {gs fr : List Nat} {C : Co}
theorem Wn.lv (h : Wn w own gw N ks gs fr C) : Lv gs fr C := by
  obtain ⟨vk, gp, gm, gt, q, T, h1, h2, h3, h4, h5, h6⟩ := h
  exact h5
/-- Rows, by who lives with what. -/
def Rc (B : Nat) (W : World) (ks : List Kind) (C : Co) (v : Value) (R : List Rt) : Prop :=
  W.ownsRow B 87 3 v R.length (rz R) ∧ Livers (fC C) (R.map entR) ∧ ∀ r ∈ R, ∃ s vals L, C (entR r) = some (s, vals) ∧ W.ownsRow B 32 2 (rtV r) L.length (pz L) ∧ Pv B W L (partsL ks s 1 vals)
theorem Rc.later {B : Nat} {v : Value} {R : List Rt} (h : Rc B w ks C v R) (hb : Below w.heap.size w w') : Rc B w' ks C v R := by
  refine ⟨own_later h.1 hb, h.2.1, fun r hr => ?_⟩
  obtain ⟨s, vals, L, e1, e2, e3⟩ := h.2.2 r hr
  exact ⟨s, vals, L, e1, own_later e2 hb, e3.later hb⟩
theorem Wn.rows (h : Wn w own gw N ks gs fr C) : Calls Tryz.prog 29 #[.pointer (some ⟨gw, 0, none⟩)] w fun e w' => ∃ v, e = .returned v ∧ (∃ R, Rc w.heap.size w' ks C v R) ∧ Below w.heap.size w w' := by
  have ho := h.ok
  obtain ⟨vk, gp, gm, gt, q, T, h1, h2, h3, h4, h5, h6⟩ := h
  refine (rows_any h1 h2 h4.2.1 (fun E e1 e2 => lives_cnt h5 ho.2.2.1 E e1 e2)).mono ?_
  rintro e w' ⟨v, rfl, ⟨R, r1, r2, r3, r4, r5, r6⟩, hb⟩
  refine ⟨v, rfl, ⟨R, r1, ⟨List.pairwise_map.2 (r2.imp (fun h => h)), r3, r4, fun e he => ?_⟩, fun r hr => ?_⟩, hb⟩
  · obtain ⟨r, hr, rfl⟩ := List.mem_map.1 he
    exact r6 r hr
  · obtain ⟨s, j, L, e1, ⟨hj, e2⟩, e3, e4, -, -⟩ := r5 r hr
    cases hC : C (entR r) with
    | none => simp [fC, hC] at e1
    | some p =>
      obtain ⟨s', vals⟩ := p
      have : s' = s := by simpa [fC, hC] using e1
      subst this
      obtain ⟨j', hj', k1, k2⟩ := h3 _ s' vals hC
      obtain ⟨_, ⟨g, hq⟩, _⟩ := h2.1 _ s' (fC_some hC)
      have hn := (h2.2 s' g hq).2.2.1
      have : j = j' := nodup_at hn hj hj' (e2.trans k1.symm)
      subst this
      rw [k2] at e4
      exact ⟨s', vals, L, rfl, e3, e4⟩
/-- Rows of two worlds of the same contents read alike. -/
theorem rc_same {B B' : Nat} {v v' : Value} {R R' : List Rt} (hl : Lv gs fr C) (h : Rc B w ks C v R) (h' : Rc B' w ks C v' R') : R.length = R'.length ∧ ∀ i (h : i < R.length) (h' : i < R'.length), SameRow w R[i] R'[i] := by
  have e := livers_eq hl h.2.1 h'.2.1
  have hlen : R.length = R'.length := by
    have := congrArg List.length e
    simpa using this
  refine ⟨hlen, fun i i1 i2 => ?_⟩
  have hent : entR R[i] = entR R'[i] := by
    have := List.getElem_of_eq e (i := i) (by simpa using i1)
    simpa using this
  obtain ⟨s, vals, L, e1, e2, e3⟩ := h.2.2 _ (List.getElem_mem i1)
  obtain ⟨s', vals', L', k1, k2, k3⟩ := h'.2.2 _ (List.getElem_mem i2)
  rw [hent, k1] at e1
  simp only [Option.some.injEq, Prod.mk.injEq] at e1
  obtain ⟨rfl, rfl⟩ := e1
  refine ⟨hent, L, L', Rp.own e2, Rp.own k2, by rw [e3.1, k3.1], fun j j1 j2 => ?_⟩
  have j3 : j < (partsL ks s' 1 vals').length := by rw [← e3.1]; exact j1
  obtain ⟨x1, x2⟩ := e3.2 j j1 j3
  obtain ⟨y1, y2⟩ := k3.2 j j2 j3
  exact ⟨x1.trans y1.symm, (partsL ks s' 1 vals')[j].2, Iz.own x2, Iz.own y2⟩
/-- How many there are of each set, by who lives with what. -/
def Cs (C : Co) (f : Nat → Option Nat) : Prop := ∀ s, (∀ n, f s = some n ↔ 0 < n ∧ ∃ E : List (Int × Int), E.Nodup ∧ E.length = n ∧ ∀ e, e ∈ E ↔ fC C e = some s)
theorem Cs.eq {f f' : Nat → Option Nat} (h : Cs C f) (h' : Cs C f') : f = f' := by
  funext s
  refine Option.ext (fun n => ?_)
  rw [h s n, h' s n]
theorem Wn.shapes (h : Wn w own gw N ks gs fr C) : Calls Tryz.prog 30 #[.pointer (some ⟨gw, 0, none⟩)] w fun e w' => ∃ f n, e = .returned (.map (some w.heap.size)) ∧ n ≤ 8192 ∧ Mi w' w.heap.size n f ∧ Cs C f ∧ Below w.heap.size w w' := by
  obtain ⟨vk, gp, gm, gt, q, T, h1, h2, h3, h4, h5, h6⟩ := h
  refine (shapes_any h1 h2).mono ?_
  rintro e w' ⟨rfl, ⟨n, hn, hm⟩, hb⟩
  refine ⟨_, n, rfl, hn, hm, fun s m => ?_, hb⟩
  cases hq : q s with
  | none =>
    dsimp only
    rw [hq]
    simp only [Option.map_none, reduceCtorEq, false_iff]
    rintro ⟨hm0, E, -, rfl, hE⟩
    obtain ⟨e, he⟩ := List.exists_mem_of_length_pos hm0
    obtain ⟨-, ⟨g, hg⟩, -⟩ := h2.1 e s ((hE e).1 he)
    rw [hq] at hg
    cases hg
  | some g =>
    obtain ⟨-, -, k3, k4, k5, -⟩ := h2.2 s g hq
    dsimp only
    rw [hq]
    simp only [Option.map_some, Option.some.injEq]
    constructor
    · rintro rfl
      exact ⟨List.length_pos_iff.2 k5, (T s).1, k3, rfl, fun e => ⟨k4 e, fun he => (h2.1 e s he).2.2⟩⟩
    · rintro ⟨-, E, e1, rfl, hE⟩
      exact ((List.perm_ext_iff_of_nodup k3 e1).2 (fun e => by rw [hE e]; exact ⟨k4 e, fun he => (h2.1 e s he).2.2⟩)).length_eq
/-- Snapshots, by who lives with what: the same bytes. -/
theorem Wn.snap (h : Wn w own gw N ks gs fr C) (E : List (Int × Int)) (hE : Livers (fC C) E) : Calls Tryz.prog 13 #[.pointer (some ⟨gw, 0, none⟩)] w fun e w' => ∃ v, e = .returned v ∧ (∃ l, l = Pak.Rw.rowB (zi gs) ++ Pak.Rw.rowB (zi fr) ++ E.flatMap (fun e => oneB ks (C e)) ∧ w'.ownsRow w.heap.size 5 1 v l.length (Lib.byteCells l)) ∧ Below w.heap.size w w' := by
  refine h.snapshot.mono ?_
  rintro e w' ⟨v, rfl, ⟨E', hE', l, hl, ho⟩, hb⟩
  obtain rfl := livers_eq h.lv hE' hE
  exact ⟨v, rfl, ⟨l, hl, ho⟩, hb⟩
end
end Go.Proofs.YtafmiolehlagkaaGreat
