import Derived.Test.YtfbhoemfabgjpaaGreatMgAF
import Derived.WideKeyEntry
import Derived.Shelf.SlIter.Collect
import Derived.RangeFuncKeeps
/-
  Buffer: the map of turns.
-/
namespace Go.Proofs.YtfbhoemfabgjpaaGreat
open Go.RowKit
set_option maxRecDepth 100000
theorem lawT : WideMaps.KeyLaw Tryz.prog 69 := deep_law_laid laidOutT (m := 2) (by omega) (of_decide_eq_true (by kernel_rfl)) (by kernel_rfl) (by rw [Tryz.underlying69])
theorem keyedT : Maps.Keyed Tryz.prog 69 := Maps.Keyed.of_law lawT
theorem key_ofT (e : Int × Int) (h : InB e) : ∃ kl, keyOf Tryz.prog 69 (evz e) = some kl := by
  have h1 : (Lit.int .i64 e.1).wf = true := by simp [Lit.wf, IntKind.min, IntKind.max, IntKind.signed, IntKind.bits]; exact h.1
  have h2 : (Lit.int .i64 e.2).wf = true := by simp [Lit.wf, IntKind.min, IntKind.max, IntKind.signed, IntKind.bits]; exact h.2
  have hk : Tryz.prog.keyType 69 = true := by kernel_rfl
  have hc : Tryz.prog.cellsOf 69 = 2 := by kernel_rfl
  have hc3 : Tryz.prog.cellsOf 3 = 1 := by kernel_rfl
  have hf : (evz e).formed Tryz.prog 69 = true := by simp [Value.formed, evz, Tryz.underlying69, hc]
  obtain ⟨d, hd⟩ : ∃ d, Tryz.prog.types.size + 1 = d + 2 := ⟨215, by kernel_rfl⟩
  have hl : (Tryz.prog.keyLits (Tryz.prog.types.size + 1) 69 (evz e).cells.toList) = some [.int .i64 e.1, .int .i64 e.2] := by
    rw [hd]
    simp [Program.keyLits, Tryz.underlying69, evz, Value.cells, hc, hc3, Tryz.underlying3, h1, h2]
  refine ⟨.string (keyBytes [.int .i64 e.1, .int .i64 e.2]), ?_⟩
  unfold keyOf
  rw [Tryz.underlying69]
  simp only [hk, hf, Bool.and_self, if_true, hl, Option.map_some]
/-- An element as it stands. -/
def slElem (v : Value) : Option (DataW Value × List MemPlace) := some (.held v, [])
theorem zeroL (w : World) : (zeroValue 45).run Tryz.prog w = .ok (.slice none 0 0) w := by kernel_rfl
/-- A map of turns: where each one's list lies. -/
def Mt (w : World) (gm n : Nat) (f : Int × Int → Option Value) : Prop :=
  ∃ D : DataW Value, w.ownsMap Tryz.prog 69 slElem gm n D ∧ (∀ e, InB e → ∀ kl, keyOf Tryz.prog 69 (evz e) = some kl → Maps.has D kl = (f e).isSome ∧ ∀ v, f e = some v → ∀ z, D.atKey kl z = .held v) ∧ ∀ kl, Maps.has D kl = true → ∃ e, InB e ∧ keyOf Tryz.prog 69 (evz e) = some kl
section
variable {w w' : World} {gm n : Nat} {f : Int × Int → Option Value}
theorem Mt.made (w : World) : Mt (w.alloc (.map #[] 0)) w.heap.size 0 (fun _ => none) :=
  ⟨.map [], World.ownsMap_made w _ _ _, fun _ _ _ _ => ⟨rfl, fun _ h => by cases h⟩, fun kl h => by
    have e : Maps.has (H := Value) (.map []) kl = false := rfl
    rw [e] at h
    cases h⟩
theorem Mt.lt (h : Mt w gm n f) : gm < w.heap.size := by
  obtain ⟨D, h1, -⟩ := h
  exact h1.lt
theorem Mt.same (h : Mt w gm n f) (hs : w'.heap[gm]? = w.heap[gm]?) : Mt w' gm n f := by
  obtain ⟨D, ⟨es, ck, h1, h2⟩, h3⟩ := h
  exact ⟨D, ⟨es, ck, hs.trans h1, h2⟩, h3⟩
theorem has_at {D : DataW Value} {kl : Lit} {v : Value} (h : ∀ z, D.atKey kl z = .held v) : Maps.has D kl = true := Maps.has_true_of_atKey h
theorem Mt.look (h : Mt w gm n f) (e : Int × Int) (he : InB e) : (Instr.lookup 53 (.map (some gm)) (.agg #[.int .i64 e.1, .int .i64 e.2]) false).run Tryz.prog w = .ok ((f e).getD (.slice none 0 0)) w := by
  obtain ⟨D, ⟨es, clock, hb, F, -, rfl⟩, h2, -⟩ := h
  obtain ⟨kl, hkl⟩ := key_ofT e he
  obtain ⟨h3, h4⟩ := h2 e he kl hkl
  rcases Maps.fit_look false keyedT Tryz.underlying53 (zeroL w) hb F hkl with ⟨hrun, _, hat⟩ | ⟨e0, y, _, _, hrun, hRv, hat, _⟩
  · have hf : f e = none := by
      rw [Maps.has_false_of_atKey hat] at h3
      cases hx : f e with
      | none => rfl
      | some v => rw [hx] at h3; cases h3
    rw [hf]
    exact hrun
  · have hf : f e = some e0.val := by
      rw [Maps.has_true_of_atKey hat] at h3
      cases hx : f e with
      | none => rw [hx] at h3; cases h3
      | some v =>
        have := (h4 v hx .nil).symm.trans (hat .nil)
        unfold slElem at hRv
        injection hRv with hRv
        rw [← hRv] at this
        injection this with this
        rw [this]
    rw [hf]
    exact hrun
/-- 'm[k] = append(m[k], ..)': the entry, then its store. -/
theorem Mt.entry (h : Mt w gm n f) (e : Int × Int) (he : InB e) (hn : n ≤ 1000000) : ∃ (st : Nat) (w1 : World), (Instr.mapEntry 53 (.map (some gm)) (.agg #[.int .i64 e.1, .int .i64 e.2])).run Tryz.prog w = .ok (.tuple #[(f e).getD (.slice none 0 0), goInt st]) w1 ∧ w.mapTurned w1 gm ∧
    ∀ (w2 : World) (val : Value), w2.heap[gm]? = w1.heap[gm]? → ∃ w3, (Instr.entryStore 53 (.map (some gm)) (goInt st) val).run Tryz.prog w2 = .ok () w3 ∧ w2.mapTurned w3 gm ∧ Mt w3 gm (n + 1) (fun x => if x = e then some val else f x) := by
  obtain ⟨D, h1, h2, hz⟩ := h
  obtain ⟨es, clock, hb, F, hs, hD⟩ := id h1
  obtain ⟨kl, hkl⟩ := key_ofT e he
  obtain ⟨h3, h4⟩ := h2 e he kl hkl
  obtain ⟨v0, st, es1, clock1, hrun, hv0, hst⟩ := WideElems.entry_then_store lawT Tryz.underlying53 zeroL hb F hkl
  have hv : v0 = (f e).getD (.slice none 0 0) := by
    have hl := Mt.look ⟨D, h1, h2, hz⟩ e he
    rcases Maps.fit_look false keyedT Tryz.underlying53 (zeroL w) hb F hkl with ⟨hr2, hno, hat⟩ | ⟨e0, y, hm0, hk0, hr2, hRv, hat, _⟩
    · have e1 := hr2.symm.trans hl
      injection e1 with e1
      rcases hv0 with ⟨e9, m9, k9, -⟩ | ⟨-, rfl⟩
      · exact absurd k9 (hno e9 m9)
      · exact e1
    · have e1 := hr2.symm.trans hl
      injection e1 with e1
      rcases hv0 with ⟨e9, m9, k9, rfl⟩ | ⟨hno, -⟩
      · have hat2 := (WideShapes.atKey_sorted (es.toList.map (Go.WideElems.rg Tryz.prog 69 slElem)) (Maps.fit_rising keyedT F) kl (keyedT.key hkl)).2
        have key : ∀ x ∈ es.toList, x.key = evz e → (DataW.map ((es.toList.map (Go.WideElems.rg Tryz.prog 69 slElem)).foldr DataW.insert [])).atKey kl .nil = .held x.val := fun x hx hk => by
          obtain ⟨y0, hy0⟩ := F.reads x hx
          obtain ⟨zv, hzv, hd⟩ := Go.WideElems.rd_val hy0
          have m0 := Go.WideElems.rd_key hy0
          rw [hk, hkl] at m0
          rw [hat2 _ (List.mem_map.2 ⟨x, hx, rfl⟩) (by rw [Go.WideElems.rg_of hy0]; exact (Option.some.inj m0).symm) .nil, Go.WideElems.rg_of hy0, hd]
          unfold slElem at hzv
          injection hzv with hzv
          rw [← hzv]
        have e2 := (key e9 m9 k9).symm.trans (key e0 hm0 hk0)
        injection e2 with e2
        rw [e2]
        exact e1
      · exact absurd hk0 (hno e0 hm0)
  subst hv
  refine ⟨st, _, hrun, ⟨es, clock, es1, clock1, hb, rfl⟩, fun w2 val hw2 => ?_⟩
  have hw2' : w2.heap[gm]? = some (.map es1 clock1) := hw2.trans (ChangeMaps.heap_setBlock_same hb _)
  obtain ⟨es', clock', k1, k2⟩ := hst w2 val hw2'
  obtain ⟨w', j1, j2, -⟩ := h1.store keyedT Tryz.underlying53 (by unfold maxLen; omega) hkl (val := val) (d := .held val) (ps := []) rfl
  rw [k2] at j1
  injection j1 with _ j1
  subst j1
  refine ⟨_, k1, ⟨es1, clock1, es', clock', hw2', rfl⟩, Mt.same (w := ChangeMaps.setBlock w gm (.map es' clock')) ⟨_, j2, fun x hx kx hkx => ?_, fun kx hkx => ?_⟩ ((ChangeMaps.heap_setBlock_same hw2' _).trans (ChangeMaps.heap_setBlock_same hb _).symm)⟩
  · by_cases ex : x = e
    · subst ex
      rw [hkl] at hkx
      obtain rfl := Option.some.inj hkx
      refine ⟨by rw [Maps.has_put_same h1.isMap (keyedT.key hkl)]; simp, fun v hv z => ?_⟩
      rw [Maps.atKey_put_same h1.isMap (keyedT.key hkl)]
      simp only [if_true, Option.some.injEq] at hv
      rw [hv]
    · have hne : kx ≠ kl := fun e' => by
        subst e'
        exact ex (evz_inj (keyedT.inj hkx hkl))
      rw [Maps.has_put_other hne]
      simp only [if_neg ex]
      refine ⟨(h2 x hx kx hkx).1, fun v hv z => ?_⟩
      rw [Maps.atKey_put_other hne]
      exact (h2 x hx kx hkx).2 v hv z
  · by_cases c : kx = kl
    · subst c
      exact ⟨e, he, hkl⟩
    · rw [Maps.has_put_other c] at hkx
      exact hz kx hkx
end
end Go.Proofs.YtfbhoemfabgjpaaGreat

/-
  Buffer: the keys of a map of turns, one by one.
-/
namespace Go.Proofs.YtfbhoemfabgjpaaGreat
open Go.RowKit Go.Maps Go.Sort Go.Shelf
set_option maxRecDepth 100000
theorem key_str {v : Value} {kl : Lit} (h : keyOf Tryz.prog 69 v = some kl) : ∃ s, kl = .string s := by
  unfold keyOf at h
  rw [Tryz.underlying69] at h
  dsimp only at h
  split at h
  · obtain ⟨ls, -, e⟩ := Option.map_eq_some_iff.1 h
    exact ⟨_, e.symm⟩
  · cases h
/-- No key twice; a key has come just where the map has it and it is no longer to come. -/
def CollT (D0 : DataW Value) (left : Lit → Bool) (ss : List (Int × Int)) : Prop := ss.Nodup ∧ ∀ x, x ∈ ss ↔ ∃ kl, InB x ∧ keyOf Tryz.prog 69 (evz x) = some kl ∧ has D0 kl = true ∧ left kl = false
theorem CollT.start (D0 : DataW Value) : CollT D0 (has D0) [] := ⟨List.nodup_nil, fun x => ⟨fun h => (by cases h), fun ⟨kl, _, _, h1, h2⟩ => by rw [h1] at h2; cases h2⟩⟩
theorem CollT.step {D0 : DataW Value} {left : Lit → Bool} {ss : List (Int × Int)} (h : CollT D0 left ss) {x : Int × Int} {kl : Lit} (hx : InB x) (hk : keyOf Tryz.prog 69 (evz x) = some kl) (hlk : left kl = true) (hh : has D0 kl = true) : CollT D0 (fun z => left z && !z.sameKey kl) (ss ++ [x]) := by
  have hnew : x ∉ ss := fun e => by
    obtain ⟨kl', _, k1, _, k2⟩ := (h.2 x).1 e
    rw [hk] at k1
    obtain rfl := Option.some.inj k1
    rw [hlk] at k2
    cases k2
  obtain ⟨s, rfl⟩ := key_str hk
  refine ⟨List.nodup_append.2 ⟨h.1, by simp, fun a ha b hb => by simp at hb; subst hb; exact fun e => hnew (e ▸ ha)⟩, fun y => ?_⟩
  rw [List.mem_append, List.mem_singleton]
  constructor
  · rintro (hy | rfl)
    · obtain ⟨kl', k0, k1, k2, k3⟩ := (h.2 y).1 hy
      exact ⟨kl', k0, k1, k2, by dsimp only; rw [k3]; rfl⟩
    · exact ⟨_, hx, hk, hh, by simp [Lit.sameKey]⟩
  · rintro ⟨kl', k0, k1, k2, k3⟩
    by_cases e : y = x
    · exact .inr e
    · refine .inl ((h.2 y).2 ⟨kl', k0, k1, k2, ?_⟩)
      obtain ⟨s', rfl⟩ := key_str k1
      have hne : s' ≠ s := fun e2 => by
        subst e2
        exact e (evz_inj (keyedT.inj k1 hk))
      simpa [Lit.sameKey, hne] using k3
set_option maxHeartbeats 2000000 in
/-- The function that maps.Keys gives. -/
theorem keysN_in (n : Nat) (hn : 1 ≤ n) (l Bm b nn : Nat) (D0 : DataW Value) (J Jx : List (Int × Int) → World → Prop)
    (hY : ∀ pre x W, J pre W → pre.length < Maps.size D0 → YieldAt Fence.wide (n - 1) Tryz.prog l #[evz x] W fun e W' => (e = .returned (.bool true) ∧ J (pre ++ [x]) W' ∧ KeepsWalks W W') ∨ (e = .returned (.bool false) ∧ Jx (pre ++ [x]) W'))
    (W : World) (hJ : AbidesFrom W.heap.size J) (hm : W.cell? ⟨Bm, 0, none⟩ = some (.map (some b))) (hown : W.ownsMap Tryz.prog 69 slElem b nn D0) (hz : ∀ kl, has D0 kl = true → ∃ e, InB e ∧ keyOf Tryz.prog 69 (evz e) = some kl) (h0 : J [] W) :
    CallsIn Fence.wide n Tryz.prog 63 #[.func (.yield l) #[] #[], .pointer (some ⟨Bm, 0, none⟩)] W fun e W' => (∃ v, e = .returned v) ∧ ((∃ ss, (CollT D0 (fun _ => false) ss ∧ ss.length ≤ Maps.size D0) ∧ J ss W') ∨ (∃ pre, True ∧ Jx pre W')) := by
  refine callsIn_of_wp Tryz.func63 rfl trivial ?_ rfl
  simp only [Tryz.ntmps63, List.size_toArray, List.length_cons, List.length_nil, Nat.reduceAdd, Nat.reduceSub, Array.replicate_succ, Array.replicate_zero, List.push_toArray, List.append_toArray, List.nil_append, List.cons_append]
  gi_wp2_with (first
    | (gi_at_range; refine wpListIn_range_own _ rfl _ 53 rfl 69 45 keyedT Tryz.underlying53 _ b nn _ rfl hown ?_; intro w0 hrg0 hg0 hs0)
    | gi_in)
  go_frame
  gi_loopw [3] (fun _ wr => ∃ (left : Lit → Bool) (cnt : Nat) (ss : List (Int × Int)), wr.ranges Tryz.prog 69 slElem b W.heap.size nn D0 left cnt ∧ ss.length + cnt ≤ Maps.size D0 ∧ CollT D0 left ss ∧ J ss wr)
    (fun _ wr => wr.rangeLeft b W.heap.size)
  case atStart =>
    exact ⟨_, _, [], hrg0, by simp, CollT.start D0, hJ [] W w0 none h0 hg0 (fun r e => by cases e)⟩
  case round =>
    obtain ⟨left, cnt, ss, hrg, hcs, hC, hJs⟩ := hrel
    gi_wp2_with (first
      | (gi_at_next; refine wpListIn_next_ranges _ rfl _ rfl 69 keyedT slElem (α := Value) id id (fun key kl hk => ⟨key, rfl⟩) (fun v _ _ => ⟨v, rfl⟩) b W.heap.size nn _ _ _ rfl hrg ?_ ?_)
      | gi_in)
    · intro hc0 hl0
      gi_wp2
      go_end0
      exact ⟨⟨_, rfl⟩, .inl ⟨ss, ⟨⟨hC.1, fun x => (hC.2 x).trans ⟨fun ⟨kl, a, b, c, _⟩ => ⟨kl, a, b, c, rfl⟩, fun ⟨kl, a, b, c, _⟩ => ⟨kl, a, b, c, hl0 kl⟩⟩⟩, by omega⟩, hJs⟩⟩
    · intro x c kl yd yp w2 cnt2 hkey hlk hv hat hrg2 hlt hg2 hs2 hen
      obtain ⟨⟨ex, ey⟩, heb, hke⟩ := hz kl (has_true_of_atKey hat)
      have hx : x = .agg #[.int .i64 ex, .int .i64 ey] := keyedT.inj hkey hke
      subst hx
      have hJ2 : J ss w2 := hJ ss wr w2 (some W.heap.size) hJs hg2 (fun r e => by cases e; exact ⟨Nat.le_refl _, hrg.iter_walk⟩)
      have hJ3 : J ss (w2.alloc (.cells #[.int .i64 ex, .int .i64 ey] 69)) := hJ ss w2 _ none hJ2 (World.grownBy_alloc _ _ none) (fun r e => by cases e)
      obtain ⟨fn, tmps, assign, body, hy, hR⟩ := hY ss (ex, ey) _ hJ3 (by omega)
      have hC2 := hC.step heb hke hlk (has_true_of_atKey hat)
      have hrg2' := hrg2.of_walks (KeepsWalks.alloc w2 (.cells #[.int .i64 ex, .int .i64 ey] 69))
      clear hs2
      dsimp only [evz] at hy
      gi_wp2
      refine hR.mono ?_
      rintro e W3 (⟨rfl, hJ4, hk3⟩ | ⟨rfl, hJx4⟩)
      · gi_wp2
        have hrg3 := hrg2'.of_walks hk3
        go_roundw
        case rel => exact ⟨_, cnt2, ss ++ [(ex, ey)], hrg3, by simp; omega, hC2, hJ4⟩
        case measure => rw [hrg3.left_eq, hrg.left_eq]; exact hlt
      · gi_wp2
        refine bodyPost_ret (results_none rfl _ _ _) rfl ?_
        exact ⟨⟨_, rfl⟩, .inr ⟨ss ++ [(ex, ey)], trivial, hJx4⟩⟩
/-- maps.Keys(m) hands back an iterator over m's keys. -/
theorem keys_stops (n : Nat) (hn : 1 ≤ n) (Bm b nn : Nat) (D0 : DataW Value) (w : World) (hBm : Bm < w.heap.size) (hm : w.cell? ⟨Bm, 0, none⟩ = some (.map (some b))) (hown : w.ownsMap Tryz.prog 69 slElem b nn D0) (hz : ∀ kl, has D0 kl = true → ∃ e, InB e ∧ keyOf Tryz.prog 69 (evz e) = some kl) :
    SeqStopsK Fence.wide n Tryz.prog 63 #[.pointer (some ⟨Bm, 0, none⟩)] (fun x => #[evz x]) KeepsWalks (fun ss => CollT D0 (fun _ => false) ss ∧ ss.length ≤ Maps.size D0) (fun _ => True) (Maps.size D0) w := fun l J Jx W hW hJ _ hY h0 => by
  have hown' : W.ownsMap Tryz.prog 69 slElem b nn D0 := by
    have hbl := hown.lt
    obtain ⟨es, clock, hb, Ft, hs, hD⟩ := hown
    exact ⟨es, clock, (hW.block b hbl).trans hb, Ft, hs, hD⟩
  exact keysN_in n hn l Bm b nn D0 J Jx hY W hJ ((hW.cell (p := ⟨Bm, 0, none⟩) hBm).trans hm) hown' hz h0
end Go.Proofs.YtfbhoemfabgjpaaGreat
