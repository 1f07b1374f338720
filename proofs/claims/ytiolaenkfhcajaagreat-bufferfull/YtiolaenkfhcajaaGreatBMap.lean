/-
  Buffer: the map of turns.
-/
import Derived.Test.YtiolaenkfhcajaaGreatBSrt
import Derived.WideKeyEntry
namespace Go.Proofs.YtiolaenkfhcajaaGreat
open Go.RowKit
set_option maxRecDepth 100000
theorem lawT : WideMaps.KeyLaw Tryz.prog 68 := deep_law_laid laidOutT (m := 2) (by omega) (of_decide_eq_true (by kernel_rfl)) (by kernel_rfl) (by rw [Tryz.underlying68])
theorem keyedT : Maps.Keyed Tryz.prog 68 := Maps.Keyed.of_law lawT
theorem key_ofT (e : Int × Int) (h : InB e) : ∃ kl, keyOf Tryz.prog 68 (evz e) = some kl := by
  have h1 : (Lit.int .i64 e.1).wf = true := by simp [Lit.wf, IntKind.min, IntKind.max, IntKind.signed, IntKind.bits]; exact h.1
  have h2 : (Lit.int .i64 e.2).wf = true := by simp [Lit.wf, IntKind.min, IntKind.max, IntKind.signed, IntKind.bits]; exact h.2
  have hk : Tryz.prog.keyType 68 = true := by kernel_rfl
  have hc : Tryz.prog.cellsOf 68 = 2 := by kernel_rfl
  have hc3 : Tryz.prog.cellsOf 3 = 1 := by kernel_rfl
  have hf : (evz e).formed Tryz.prog 68 = true := by simp [Value.formed, evz, Tryz.underlying68, hc]
  obtain ⟨d, hd⟩ : ∃ d, Tryz.prog.types.size + 1 = d + 2 := ⟨190, by kernel_rfl⟩
  have hl : (Tryz.prog.keyLits (Tryz.prog.types.size + 1) 68 (evz e).cells.toList) = some [.int .i64 e.1, .int .i64 e.2] := by
    rw [hd]
    simp [Program.keyLits, Tryz.underlying68, evz, Value.cells, hc, hc3, Tryz.underlying3, h1, h2]
  refine ⟨.string (keyBytes [.int .i64 e.1, .int .i64 e.2]), ?_⟩
  unfold keyOf
  rw [Tryz.underlying68]
  simp only [hk, hf, Bool.and_self, if_true, hl, Option.map_some]
/-- An element as it stands. -/
def slElem (v : Value) : Option (DataW Value × List MemPlace) := some (.held v, [])
theorem zeroL (w : World) : (zeroValue 46).run Tryz.prog w = .ok (.slice none 0 0) w := by kernel_rfl
/-- A map of turns: where each one's list lies. -/
def Mt (w : World) (gm n : Nat) (f : Int × Int → Option Value) : Prop :=
  ∃ D : DataW Value, w.ownsMap Tryz.prog 68 slElem gm n D ∧ (∀ e, InB e → ∀ kl, keyOf Tryz.prog 68 (evz e) = some kl → Maps.has D kl = (f e).isSome ∧ ∀ v, f e = some v → ∀ z, D.atKey kl z = .held v) ∧ ∀ kl, Maps.has D kl = true → ∃ e, InB e ∧ keyOf Tryz.prog 68 (evz e) = some kl
section
variable {w w' : World} {gm n : Nat} {f : Int × Int → Option Value}
theorem Mt.made (w : World) : Mt (w.alloc (.map #[] 0)) w.heap.size 0 (fun _ => none) :=
  ⟨.map [], World.ownsMap_made w _ _ _, fun _ _ _ _ => ⟨rfl, fun _ h => by cases h⟩, fun kl h => by
    have e : Maps.has (H := Value) (.map []) kl = false := rfl
    rw [e] at h
    cases h⟩
theorem Mt.lt (h : Mt w gm n f) : gm < w.heap.size := by
  obtain ⟨D, h1, -⟩ := h
  exact h1.lt
theorem Mt.same (h : Mt w gm n f) (hs : w'.heap[gm]? = w.heap[gm]?) : Mt w' gm n f := by
  obtain ⟨D, ⟨es, ck, h1, h2⟩, h3⟩ := h
  exact ⟨D, ⟨es, ck, hs.trans h1, h2⟩, h3⟩
theorem has_at {D : DataW Value} {kl : Lit} {v : Value} (h : ∀ z, D.atKey kl z = .held v) : Maps.has D kl = true := Maps.has_true_of_atKey h
theorem Mt.look (h : Mt w gm n f) (e : Int × Int) (he : InB e) : (Instr.lookup 52 (.map (some gm)) (.agg #[.int .i64 e.1, .int .i64 e.2]) false).run Tryz.prog w = .ok ((f e).getD (.slice none 0 0)) w := by
  obtain ⟨D, ⟨es, clock, hb, F, -, rfl⟩, h2, -⟩ := h
  obtain ⟨kl, hkl⟩ := key_ofT e he
  obtain ⟨h3, h4⟩ := h2 e he kl hkl
  rcases Maps.fit_look false keyedT Tryz.underlying52 (zeroL w) hb F hkl with ⟨hrun, _, hat⟩ | ⟨e0, y, _, _, hrun, hRv, hat, _⟩
  · have hf : f e = none := by
      rw [Maps.has_false_of_atKey hat] at h3
      cases hx : f e with
      | none => rfl
      | some v => rw [hx] at h3; cases h3
    rw [hf]
    exact hrun
  · have hf : f e = some e0.val := by
      rw [Maps.has_true_of_atKey hat] at h3
      cases hx : f e with
      | none => rw [hx] at h3; cases h3
      | some v =>
        have := (h4 v hx .nil).symm.trans (hat .nil)
        unfold slElem at hRv
        injection hRv with hRv
        rw [← hRv] at this
        injection this with this
        rw [this]
    rw [hf]
    exact hrun
/-- 'm[k] = append(m[k], ..)': the entry, then its store. -/
theorem Mt.entry (h : Mt w gm n f) (e : Int × Int) (he : InB e) (hn : n ≤ 1000000) : ∃ (st : Nat) (w1 : World), (Instr.mapEntry 52 (.map (some gm)) (.agg #[.int .i64 e.1, .int .i64 e.2])).run Tryz.prog w = .ok (.tuple #[(f e).getD (.slice none 0 0), goInt st]) w1 ∧ w.mapTurned w1 gm ∧
    ∀ (w2 : World) (val : Value), w2.heap[gm]? = w1.heap[gm]? → ∃ w3, (Instr.entryStore 52 (.map (some gm)) (goInt st) val).run Tryz.prog w2 = .ok () w3 ∧ w2.mapTurned w3 gm ∧ Mt w3 gm (n + 1) (fun x => if x = e then some val else f x) := by
  obtain ⟨D, h1, h2, hz⟩ := h
  obtain ⟨es, clock, hb, F, hs, hD⟩ := id h1
  obtain ⟨kl, hkl⟩ := key_ofT e he
  obtain ⟨h3, h4⟩ := h2 e he kl hkl
  obtain ⟨v0, st, es1, clock1, hrun, hv0, hst⟩ := WideElems.entry_then_store lawT Tryz.underlying52 zeroL hb F hkl
  have hv : v0 = (f e).getD (.slice none 0 0) := by
    have hl := Mt.look ⟨D, h1, h2, hz⟩ e he
    rcases Maps.fit_look false keyedT Tryz.underlying52 (zeroL w) hb F hkl with ⟨hr2, hno, hat⟩ | ⟨e0, y, hm0, hk0, hr2, hRv, hat, _⟩
    · have e1 := hr2.symm.trans hl
      injection e1 with e1
      rcases hv0 with ⟨e9, m9, k9, -⟩ | ⟨-, rfl⟩
      · exact absurd k9 (hno e9 m9)
      · exact e1
    · have e1 := hr2.symm.trans hl
      injection e1 with e1
      rcases hv0 with ⟨e9, m9, k9, rfl⟩ | ⟨hno, -⟩
      · have hat2 := (WideShapes.atKey_sorted (es.toList.map (Go.WideElems.rg Tryz.prog 68 slElem)) (Maps.fit_rising keyedT F) kl (keyedT.key hkl)).2
        have key : ∀ x ∈ es.toList, x.key = evz e → (DataW.map ((es.toList.map (Go.WideElems.rg Tryz.prog 68 slElem)).foldr DataW.insert [])).atKey kl .nil = .held x.val := fun x hx hk => by
          obtain ⟨y0, hy0⟩ := F.reads x hx
          obtain ⟨zv, hzv, hd⟩ := Go.WideElems.rd_val hy0
          have m0 := Go.WideElems.rd_key hy0
          rw [hk, hkl] at m0
          rw [hat2 _ (List.mem_map.2 ⟨x, hx, rfl⟩) (by rw [Go.WideElems.rg_of hy0]; exact (Option.some.inj m0).symm) .nil, Go.WideElems.rg_of hy0, hd]
          unfold slElem at hzv
          injection hzv with hzv
          rw [← hzv]
        have e2 := (key e9 m9 k9).symm.trans (key e0 hm0 hk0)
        injection e2 with e2
        rw [e2]
        exact e1
      · exact absurd hk0 (hno e0 hm0)
  subst hv
  refine ⟨st, _, hrun, ⟨es, clock, es1, clock1, hb, rfl⟩, fun w2 val hw2 => ?_⟩
  have hw2' : w2.heap[gm]? = some (.map es1 clock1) := hw2.trans (ChangeMaps.heap_setBlock_same hb _)
  obtain ⟨es', clock', k1, k2⟩ := hst w2 val hw2'
  obtain ⟨w', j1, j2, -⟩ := h1.store keyedT Tryz.underlying52 (by unfold maxLen; omega) hkl (val := val) (d := .held val) (ps := []) rfl
  rw [k2] at j1
  injection j1 with _ j1
  subst j1
  refine ⟨_, k1, ⟨es1, clock1, es', clock', hw2', rfl⟩, Mt.same (w := ChangeMaps.setBlock w gm (.map es' clock')) ⟨_, j2, fun x hx kx hkx => ?_, fun kx hkx => ?_⟩ ((ChangeMaps.heap_setBlock_same hw2' _).trans (ChangeMaps.heap_setBlock_same hb _).symm)⟩
  · by_cases ex : x = e
    · subst ex
      rw [hkl] at hkx
      obtain rfl := Option.some.inj hkx
      refine ⟨by rw [Maps.has_put_same h1.isMap (keyedT.key hkl)]; simp, fun v hv z => ?_⟩
      rw [Maps.atKey_put_same h1.isMap (keyedT.key hkl)]
      simp only [if_true, Option.some.injEq] at hv
      rw [hv]
    · have hne : kx ≠ kl := fun e' => by
        subst e'
        exact ex (evz_inj (keyedT.inj hkx hkl))
      rw [Maps.has_put_other hne]
      simp only [if_neg ex]
      refine ⟨(h2 x hx kx hkx).1, fun v hv z => ?_⟩
      rw [Maps.atKey_put_other hne]
      exact (h2 x hx kx hkx).2 v hv z
  · by_cases c : kx = kl
    · subst c
      exact ⟨e, he, hkl⟩
    · rw [Maps.has_put_other c] at hkx
      exact hz kx hkx
end
end Go.Proofs.YtiolaenkfhcajaaGreat
