/-
  Buffer: the keys of a map of turns, one by one.
-/
import Derived.Test.YtiolaenkfhcajaaGreatBMap
import Derived.Shelf.SlIter.Collect
import Derived.RangeFuncKeeps
namespace Go.Proofs.YtiolaenkfhcajaaGreat
open Go.RowKit Go.Maps Go.Sort Go.Shelf
set_option maxRecDepth 100000
theorem key_str {v : Value} {kl : Lit} (h : keyOf Tryz.prog 68 v = some kl) : ∃ s, kl = .string s := by
  unfold keyOf at h
  rw [Tryz.underlying68] at h
  dsimp only at h
  split at h
  · obtain ⟨ls, -, e⟩ := Option.map_eq_some_iff.1 h
    exact ⟨_, e.symm⟩
  · cases h
/-- No key twice; a key has come just where the map has it and it is no longer to come. -/
def CollT (D0 : DataW Value) (left : Lit → Bool) (ss : List (Int × Int)) : Prop := ss.Nodup ∧ ∀ x, x ∈ ss ↔ ∃ kl, InB x ∧ keyOf Tryz.prog 68 (evz x) = some kl ∧ has D0 kl = true ∧ left kl = false
theorem CollT.start (D0 : DataW Value) : CollT D0 (has D0) [] := ⟨List.nodup_nil, fun x => ⟨fun h => (by cases h), fun ⟨kl, _, _, h1, h2⟩ => by rw [h1] at h2; cases h2⟩⟩
theorem CollT.step {D0 : DataW Value} {left : Lit → Bool} {ss : List (Int × Int)} (h : CollT D0 left ss) {x : Int × Int} {kl : Lit} (hx : InB x) (hk : keyOf Tryz.prog 68 (evz x) = some kl) (hlk : left kl = true) (hh : has D0 kl = true) : CollT D0 (fun z => left z && !z.sameKey kl) (ss ++ [x]) := by
  have hnew : x ∉ ss := fun e => by
    obtain ⟨kl', _, k1, _, k2⟩ := (h.2 x).1 e
    rw [hk] at k1
    obtain rfl := Option.some.inj k1
    rw [hlk] at k2
    cases k2
  obtain ⟨s, rfl⟩ := key_str hk
  refine ⟨List.nodup_append.2 ⟨h.1, by simp, fun a ha b hb => by simp at hb; subst hb; exact fun e => hnew (e ▸ ha)⟩, fun y => ?_⟩
  rw [List.mem_append, List.mem_singleton]
  constructor
  · rintro (hy | rfl)
    · obtain ⟨kl', k0, k1, k2, k3⟩ := (h.2 y).1 hy
      exact ⟨kl', k0, k1, k2, by dsimp only; rw [k3]; rfl⟩
    · exact ⟨_, hx, hk, hh, by simp [Lit.sameKey]⟩
  · rintro ⟨kl', k0, k1, k2, k3⟩
    by_cases e : y = x
    · exact .inr e
    · refine .inl ((h.2 y).2 ⟨kl', k0, k1, k2, ?_⟩)
      obtain ⟨s', rfl⟩ := key_str k1
      have hne : s' ≠ s := fun e2 => by
        subst e2
        exact e (evz_inj (keyedT.inj k1 hk))
      simpa [Lit.sameKey, hne] using k3
set_option maxHeartbeats 2000000 in
/-- The function that maps.Keys gives. -/
theorem keysN_in (n : Nat) (hn : 1 ≤ n) (l Bm b nn : Nat) (D0 : DataW Value) (J Jx : List (Int × Int) → World → Prop)
    (hY : ∀ pre x W, J pre W → pre.length < Maps.size D0 → YieldAt Fence.wide (n - 1) Tryz.prog l #[evz x] W fun e W' => (e = .returned (.bool true) ∧ J (pre ++ [x]) W' ∧ KeepsWalks W W') ∨ (e = .returned (.bool false) ∧ Jx (pre ++ [x]) W'))
    (W : World) (hJ : AbidesFrom W.heap.size J) (hm : W.cell? ⟨Bm, 0, none⟩ = some (.map (some b))) (hown : W.ownsMap Tryz.prog 68 slElem b nn D0) (hz : ∀ kl, has D0 kl = true → ∃ e, InB e ∧ keyOf Tryz.prog 68 (evz e) = some kl) (h0 : J [] W) :
    CallsIn Fence.wide n Tryz.prog 50 #[.func (.yield l) #[] #[], .pointer (some ⟨Bm, 0, none⟩)] W fun e W' => (∃ v, e = .returned v) ∧ ((∃ ss, (CollT D0 (fun _ => false) ss ∧ ss.length ≤ Maps.size D0) ∧ J ss W') ∨ (∃ pre, True ∧ Jx pre W')) := by
  refine callsIn_of_wp Tryz.func50 rfl trivial ?_ rfl
  simp only [Tryz.ntmps50, List.size_toArray, List.length_cons, List.length_nil, Nat.reduceAdd, Nat.reduceSub, Array.replicate_succ, Array.replicate_zero, List.push_toArray, List.append_toArray, List.nil_append, List.cons_append]
  gi_wp2_with (first
    | (gi_at_range; refine wpListIn_range_own _ rfl _ 52 rfl 68 46 keyedT Tryz.underlying52 _ b nn _ rfl hown ?_; intro w0 hrg0 hg0 hs0)
    | gi_in)
  go_frame
  gi_loopw [3] (fun _ wr => ∃ (left : Lit → Bool) (cnt : Nat) (ss : List (Int × Int)), wr.ranges Tryz.prog 68 slElem b W.heap.size nn D0 left cnt ∧ ss.length + cnt ≤ Maps.size D0 ∧ CollT D0 left ss ∧ J ss wr)
    (fun _ wr => wr.rangeLeft b W.heap.size)
  case atStart =>
    exact ⟨_, _, [], hrg0, by simp, CollT.start D0, hJ [] W w0 none h0 hg0 (fun r e => by cases e)⟩
  case round =>
    obtain ⟨left, cnt, ss, hrg, hcs, hC, hJs⟩ := hrel
    gi_wp2_with (first
      | (gi_at_next; refine wpListIn_next_ranges _ rfl _ rfl 68 keyedT slElem (α := Value) id id (fun key kl hk => ⟨key, rfl⟩) (fun v _ _ => ⟨v, rfl⟩) b W.heap.size nn _ _ _ rfl hrg ?_ ?_)
      | gi_in)
    · intro hc0 hl0
      gi_wp2
      go_end0
      exact ⟨⟨_, rfl⟩, .inl ⟨ss, ⟨⟨hC.1, fun x => (hC.2 x).trans ⟨fun ⟨kl, a, b, c, _⟩ => ⟨kl, a, b, c, rfl⟩, fun ⟨kl, a, b, c, _⟩ => ⟨kl, a, b, c, hl0 kl⟩⟩⟩, by omega⟩, hJs⟩⟩
    · intro x c kl yd yp w2 cnt2 hkey hlk hv hat hrg2 hlt hg2 hs2 hen
      obtain ⟨⟨ex, ey⟩, heb, hke⟩ := hz kl (has_true_of_atKey hat)
      have hx : x = .agg #[.int .i64 ex, .int .i64 ey] := keyedT.inj hkey hke
      subst hx
      have hJ2 : J ss w2 := hJ ss wr w2 (some W.heap.size) hJs hg2 (fun r e => by cases e; exact ⟨Nat.le_refl _, hrg.iter_walk⟩)
      have hJ3 : J ss (w2.alloc (.cells #[.int .i64 ex, .int .i64 ey] 68)) := hJ ss w2 _ none hJ2 (World.grownBy_alloc _ _ none) (fun r e => by cases e)
      obtain ⟨fn, tmps, assign, body, hy, hR⟩ := hY ss (ex, ey) _ hJ3 (by omega)
      have hC2 := hC.step heb hke hlk (has_true_of_atKey hat)
      have hrg2' := hrg2.of_walks (KeepsWalks.alloc w2 (.cells #[.int .i64 ex, .int .i64 ey] 68))
      clear hs2
      dsimp only [evz] at hy
      gi_wp2
      refine hR.mono ?_
      rintro e W3 (⟨rfl, hJ4, hk3⟩ | ⟨rfl, hJx4⟩)
      · gi_wp2
        have hrg3 := hrg2'.of_walks hk3
        go_roundw
        case rel => exact ⟨_, cnt2, ss ++ [(ex, ey)], hrg3, by simp; omega, hC2, hJ4⟩
        case measure => rw [hrg3.left_eq, hrg.left_eq]; exact hlt
      · gi_wp2
        refine bodyPost_ret (results_none rfl _ _ _) rfl ?_
        exact ⟨⟨_, rfl⟩, .inr ⟨ss ++ [(ex, ey)], trivial, hJx4⟩⟩
/-- maps.Keys(m) hands back an iterator over m's keys. -/
theorem keys_stops (n : Nat) (hn : 1 ≤ n) (Bm b nn : Nat) (D0 : DataW Value) (w : World) (hBm : Bm < w.heap.size) (hm : w.cell? ⟨Bm, 0, none⟩ = some (.map (some b))) (hown : w.ownsMap Tryz.prog 68 slElem b nn D0) (hz : ∀ kl, has D0 kl = true → ∃ e, InB e ∧ keyOf Tryz.prog 68 (evz e) = some kl) :
    SeqStopsK Fence.wide n Tryz.prog 50 #[.pointer (some ⟨Bm, 0, none⟩)] (fun x => #[evz x]) KeepsWalks (fun ss => CollT D0 (fun _ => false) ss ∧ ss.length ≤ Maps.size D0) (fun _ => True) (Maps.size D0) w := fun l J Jx W hW hJ _ hY h0 => by
  have hown' : W.ownsMap Tryz.prog 68 slElem b nn D0 := by
    have hbl := hown.lt
    obtain ⟨es, clock, hb, Ft, hs, hD⟩ := hown
    exact ⟨es, clock, (hW.block b hbl).trans hb, Ft, hs, hD⟩
  exact keysN_in n hn l Bm b nn D0 J Jx hY W hJ ((hW.cell (p := ⟨Bm, 0, none⟩) hBm).trans hm) hown' hz h0
end Go.Proofs.YtiolaenkfhcajaaGreat
