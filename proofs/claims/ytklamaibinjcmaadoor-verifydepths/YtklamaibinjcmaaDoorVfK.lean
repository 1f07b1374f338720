/-
  Verify: a map from places to depths.
-/
import Derived.Test.YtklamaibinjcmaaDoorMgF
import Derived.Test.YtklamaibinjcmaaDoorMgD
import Derived.Maps.OwnSet
import Derived.Maps.RangeWalk
namespace Go.Proofs.YtklamaibinjcmaaDoor
open Go.RowKit
set_option maxRecDepth 100000
theorem keyedI : Maps.Keyed Tryd.prog 3 := Maps.int_keyed Tryd.underlying3
theorem keyI (k : Nat) (h : k ≤ 1000000) : keyOf Tryd.prog 3 (.int .i64 (k : Int)) = some (.int .i64 (k : Int)) := by
  have hw : (Lit.int .i64 (k : Int)).wf = true := by simp [Lit.wf, IntKind.min, IntKind.max, IntKind.signed, IntKind.bits]; omega
  simp [keyOf, mapKey, Tryd.underlying3, hw]
theorem zeroSl (w : World) : (zeroValue 32).run Tryd.prog w = .ok (.slice none 0 0) w := by kernel_rfl
/-- A row's head. -/
def hdE (v : Value) : Option (DataW (Nat × Nat × Nat) × List MemPlace) :=
  match v with
  | .slice none 0 0 => some (.nil, [])
  | .slice (some ⟨g, 0, none⟩) n c => some (.held (g, n, c), [])
  | _ => none
theorem hdE_held {v : Value} {g n c : Nat} {ps : List MemPlace} (h : hdE v = some (.held (g, n, c), ps)) : v = .slice (some ⟨g, 0, none⟩) n c := by
  unfold hdE at h
  split at h
  · simp at h
  · simp only [Option.some.injEq, Prod.mk.injEq, DataW.held.injEq] at h
    obtain ⟨⟨rfl, rfl, rfl⟩, -⟩ := h
    rfl
  · cases h
theorem hdE_nil {v : Value} {ps : List MemPlace} (h : hdE v = some (.nil, ps)) : v = .slice none 0 0 := by
  unfold hdE at h
  split at h
  · rfl
  · simp at h
  · cases h
theorem hdE_inv (v : Value) (y : DataW (Nat × Nat × Nat) × List MemPlace) (h : hdE v = some y) : ∃ c : Option Addr × Nat × Nat, v = .slice c.1 c.2.1 c.2.2 := by
  unfold hdE at h
  split at h
  · exact ⟨(none, 0, 0), rfl⟩
  · rename_i g n c
    exact ⟨(some ⟨g, 0, none⟩, n, c), rfl⟩
  · cases h
/-- What stands at each place of a map of rows. -/
structure Me (w : World) (B : Nat) (D : DataW (Nat × Nat × Nat)) (bl cp : Nat → Nat) (kn : Nat → List Nat) : Prop where
  at' : ∀ p : Nat, p ≤ 1000000 → Maps.has D (.int .i64 (p : Int)) = decide (kn p ≠ []) ∧ (kn p ≠ [] → D.atKey (.int .i64 (p : Int)) .nil = .held (bl p, (kn p).length, cp p))
  row : ∀ p : Nat, kn p ≠ [] → p ≤ 1000000 ∧ w.ownsRow B 3 1 (.slice (some ⟨bl p, 0, none⟩) (kn p).length (cp p)) (kn p).length (nz (kn p))
  inj : ∀ p q : Nat, kn p ≠ [] → kn q ≠ [] → bl p = bl q → p = q
  key : ∀ kl, Maps.has D kl = true → ∃ p : Nat, p ≤ 1000000 ∧ kl = .int .i64 (p : Int)
/-- A map from places to rows of depths, each in a block of its own. -/
def Md (w : World) (B gm n : Nat) (kn : Nat → List Nat) : Prop :=
  ∃ (D : DataW (Nat × Nat × Nat)) (bl cp : Nat → Nat), w.ownsMap Tryd.prog 3 hdE gm n D ∧ Me w B D bl cp kn
section
variable {w w' : World} {B gm n : Nat} {kn : Nat → List Nat}
theorem Md.made (w : World) (B : Nat) : Md (w.alloc (.map #[] 0)) B w.heap.size 0 (fun _ => []) :=
  ⟨.map [], fun _ => 0, fun _ => 0, World.ownsMap_made w _ _ _, ⟨fun _ _ => ⟨rfl, fun h => absurd rfl h⟩, fun _ h => absurd rfl h, fun _ _ h => absurd rfl h, fun kl h => by
    have e : Maps.has (H := Nat × Nat × Nat) (.map []) kl = false := rfl
    rw [e] at h
    cases h⟩⟩
theorem Md.lt (h : Md w B gm n kn) : gm < w.heap.size := by
  obtain ⟨D, bl, cp, h1, -⟩ := h
  exact h1.lt
theorem Md.isMap (h : Md w B gm n kn) : ∃ es ck, w.heap[gm]? = some (.map es ck) := by
  obtain ⟨D, bl, cp, ⟨es, ck, h1, -⟩, -⟩ := h
  exact ⟨es, ck, h1⟩
theorem Me.kept {D : DataW (Nat × Nat × Nat)} {bl cp : Nat → Nat} {row : Option Nat} (h : Me w B D bl cp kn) (hg : w.grownBy w' row) (h1 : ∀ p, kn p ≠ [] → row ≠ some (bl p)) : Me w' B D bl cp kn :=
  ⟨h.at', fun p hp => ⟨(h.row p hp).1, own_kept (h.row p hp).2 hg (fun k e => by
    simp only [Value.ownBlock, Option.some.injEq] at e
    exact e ▸ h1 p hp)⟩, h.inj, h.key⟩
theorem Md.later (h : Md w B gm n kn) (hb : Below w.heap.size w w') : Md w' B gm n kn := by
  obtain ⟨D, bl, cp, h1, h2⟩ := h
  exact ⟨D, bl, cp, h1.kept (grown_later hb) (by simp), h2.kept (grown_later hb) (fun _ _ => by simp)⟩
/-- A row of another sort grows. -/
theorem Md.other (h : Md w B gm n kn) {B' e s m : Nat} {v : Value} {xs : List Value} (hv : w.ownsRow B' e s v m xs) (he : e ≠ 3) (hg : w.grownBy w' v.ownBlock) : Md w' B gm n kn := by
  have hm := h.isMap
  obtain ⟨D, bl, cp, h1, h2⟩ := h
  have hne : ∀ k, v.ownBlock = some k → k ≠ gm := fun k hk e' => by
    obtain ⟨cur, hc⟩ := own_blk2 hv hk
    obtain ⟨es, ck, hm⟩ := hm
    rw [e', hm] at hc
    cases hc
  refine ⟨D, bl, cp, h1.kept hg (fun e' => hne gm e'.symm rfl), h2.kept hg (fun p hp e' => ?_)⟩
  exact own_ap2 (h2.row p hp).2 hv (fun e'' => he e''.symm) (bl p) rfl e'
/-- The depths at a place. -/
theorem Md.look (h : Md w B gm n kn) (p : Nat) (hp : p ≤ 1000000) : ∃ v, (∀ W : World, W.heap[gm]? = w.heap[gm]? → (Instr.lookup 99 (.map (some gm)) (.int .i64 (p : Int)) false).run Tryd.prog W = .ok v W) ∧ w.ownsRow B 3 1 v (kn p).length (nz (kn p)) ∧ (∀ k, v.ownBlock = some k → k < w.heap.size ∧ B ≤ k) := by
  obtain ⟨D, bl, cp, h1, h2⟩ := h
  have look : ∀ W : World, W.heap[gm]? = w.heap[gm]? → ∃ v ps, (Instr.lookup 99 (.map (some gm)) (.int .i64 (p : Int)) false).run Tryd.prog W = .ok v W ∧ hdE v = some (D.atKey (.int .i64 (p : Int)) .nil, ps) := fun W hW => by
    have h1' : W.ownsMap Tryd.prog 3 hdE gm n D := by
      obtain ⟨es, ck, x1, x2⟩ := h1
      exact ⟨es, ck, hW.trans x1, x2⟩
    exact h1'.lookup keyedI Tryd.underlying99 (zeroSl W) (zd := .nil) (zp := []) rfl (keyI p hp)
  by_cases c : kn p = []
  · have hno : Maps.has D (.int .i64 (p : Int)) = false := by rw [(h2.at' p hp).1]; simp [c]
    rw [Maps.atKey_of_not_has hno] at look
    refine ⟨.slice none 0 0, fun W hW => ?_, ?_, fun k e => by simp [Value.ownBlock] at e⟩
    · obtain ⟨v, ps, hr, hv⟩ := look W hW
      rw [hdE_nil hv] at hr
      exact hr
    · rw [c]
      exact World.ownsRow_nil _ _ _ _
  · rw [(h2.at' p hp).2 c] at look
    refine ⟨.slice (some ⟨bl p, 0, none⟩) (kn p).length (cp p), fun W hW => ?_, (h2.row p c).2, fun k e => ?_⟩
    · obtain ⟨v, ps, hr, hv⟩ := look W hW
      rw [hdE_held hv] at hr
      exact hr
    · obtain ⟨cur, hc⟩ := own_blk2 (h2.row p c).2 e
      refine ⟨lt_of_block hc, ?_⟩
      simp only [Value.ownBlock, Option.some.injEq] at e
      have := own_ge (h2.row p c).2
      omega
/-- One depth is put behind those at a place. -/
theorem Md.put (h : Md w B gm n kn) (p d : Nat) (hp : p ≤ 1000000) (hn : n ≤ 1000000000) {v : Value} (hl : (Instr.lookup 99 (.map (some gm)) (.int .i64 (p : Int)) false).run Tryd.prog w = .ok v w) {g' c' m : Nat} (hm : m = (kn p).length + 1) (hg : w.grownBy w' v.ownBlock) (ho : w'.ownsRow B 3 1 (.slice (some ⟨g', 0, none⟩) m c') m (nz (kn p ++ [d]))) (hw : v.ownBlock = some g' ∨ w.heap.size ≤ g') :
    ∃ w2, (Instr.mapUpdate 99 (.map (some gm)) (.int .i64 (p : Int)) (.slice (some ⟨g', 0, none⟩) m c')).run Tryd.prog w' = .ok () w2 ∧ Md w2 B gm (n + 1) (knA kn p d) ∧ w'.grownBy w2 (some gm) := by
  have hmap := h.isMap
  have hgm := h.lt
  obtain ⟨D, bl, cp, h1, h2⟩ := h
  obtain ⟨v0, ps, hr, hv⟩ := h1.lookup keyedI Tryd.underlying99 (zeroSl w) (zd := .nil) (zp := []) rfl (keyI p hp)
  rw [hl] at hr
  injection hr with hr _
  subst hr
  have hvb : ∀ k, v.ownBlock = some k → kn p ≠ [] ∧ bl p = k := fun k e => by
    by_cases c : kn p = []
    · have : Maps.has D (.int .i64 (p : Int)) = false := by rw [(h2.at' p hp).1]; simp [c]
      rw [Maps.atKey_of_not_has this] at hv
      rw [hdE_nil hv] at e
      simp [Value.ownBlock] at e
    · rw [(h2.at' p hp).2 c] at hv
      rw [hdE_held hv] at e
      simp only [Value.ownBlock, Option.some.injEq] at e
      exact ⟨c, e⟩
  have hblk : ∀ q, kn q ≠ [] → (∃ cur, w.heap[bl q]? = some (.cells cur 3 (0, 0))) := fun q hq => own_blk2 (h2.row q hq).2 rfl
  have hne : v.ownBlock ≠ some gm := fun e => by
    obtain ⟨c, e2⟩ := hvb gm e
    obtain ⟨cur, hc⟩ := hblk p c
    obtain ⟨es, ck, hm⟩ := hmap
    rw [e2, hm] at hc
    cases hc
  have k1 := h1.kept hg (fun e => hne e.symm)
  obtain ⟨w2, hr2, k2, k3⟩ := k1.update keyedI Tryd.underlying99 (by unfold maxLen; omega) (keyI p hp) (val := .slice (some ⟨g', 0, none⟩) m c') (d := .held (g', m, c')) (ps := []) rfl
  refine ⟨w2, hr2, ⟨_, fun q => if q = p then g' else bl q, fun q => if q = p then c' else cp q, k2, ?_⟩, k3⟩
  have hgne : g' ≠ gm := fun e => by
    obtain ⟨cur, hc⟩ := own_blk2 ho (g := g') rfl
    obtain ⟨es, ck, hx⟩ := k1
    rw [e, hx.1] at hc
    cases hc
  have hrow : ∀ q, q ≠ p → kn q ≠ [] → bl q ≠ g' := fun q hqp hq e => by
    rcases hw with hw | hw
    · obtain ⟨c, e2⟩ := hvb g' hw
      exact hqp (h2.inj q p hq c (by omega))
    · obtain ⟨cur, hc⟩ := hblk q hq
      have := lt_of_block hc
      omega
  constructor
  · intro q hq
    by_cases e : q = p
    · subst e
      rw [Maps.has_put_same k1.isMap (keyedI.key (keyI q hp)), Maps.atKey_put_same k1.isMap (keyedI.key (keyI q hp))]
      simp [knA, hm]
    · have hne' : (Lit.int .i64 (q : Int)) ≠ .int .i64 (p : Int) := fun e' => by
        simp only [Lit.int.injEq, true_and] at e'
        omega
      rw [Maps.has_put_other hne', Maps.atKey_put_other hne']
      simp only [knA, if_neg e]
      exact h2.at' q hq
  · intro q hq
    by_cases e : q = p
    · subst e
      refine ⟨hp, ?_⟩
      have : (knA kn q d q).length = m := by simp [knA, hm]
      rw [this]
      simp only [if_true, knA]
      exact own_kept ho k3 (fun k e' => by
        simp only [Value.ownBlock, Option.some.injEq] at e'
        simp only [ne_eq, Option.some.injEq]
        omega)
    · simp only [knA, if_neg e] at hq ⊢
      refine ⟨(h2.row q hq).1, ?_⟩
      refine own_kept (own_kept (h2.row q hq).2 hg (fun k e' => ?_)) k3 (fun k e' => ?_)
      · simp only [Value.ownBlock, Option.some.injEq] at e'
        intro e2
        obtain ⟨c, e3⟩ := hvb k e2
        exact e (h2.inj q p hq c (by omega))
      · simp only [Value.ownBlock, Option.some.injEq] at e'
        simp only [ne_eq, Option.some.injEq]
        intro e2
        obtain ⟨cur, hc⟩ := hblk q hq
        obtain ⟨es, ck, hx⟩ := hmap
        rw [e', ← e2, hx] at hc
        cases hc
  · intro q r hq hr' e
    by_cases e1 : q = p
    · by_cases e2 : r = p
      · rw [e1, e2]
      · simp only [knA, if_neg e2] at hr'
        simp only [if_pos e1, if_neg e2] at e
        exact absurd e.symm (hrow r e2 hr')
    · simp only [knA, if_neg e1] at hq
      by_cases e2 : r = p
      · simp only [if_neg e1, if_pos e2] at e
        exact absurd e (hrow q e1 hq)
      · simp only [knA, if_neg e2] at hr'
        simp only [if_neg e1, if_neg e2] at e
        exact h2.inj q r hq hr' e
  · intro kl hkl
    by_cases c : kl = .int .i64 (p : Int)
    · exact ⟨p, hp, c⟩
    · rw [Maps.has_put_other c] at hkl
      exact h2.key kl hkl
end
end Go.Proofs.YtklamaibinjcmaaDoor
