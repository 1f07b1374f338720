/-
  World: Add, where all is well.
-/
import Derived.Test.YtafmiolehlagkaaGreatWPp
import Derived.Test.YtafmiolehlagkaaGreatWErr
namespace Go.Proofs.YtafmiolehlagkaaGreat
open Go.RowKit
set_option maxRecDepth 100000
theorem own_kinds {w : World} {B B' e e' s s' n n' k : Nat} {v v' : Value} {xs xs' : List Value} (h : w.ownsRow B e s v n xs) (h' : w.ownsRow B' e' s' v' n' xs') (hne : e ≠ e') (hk : v.ownBlock = some k) : v'.ownBlock ≠ some k := fun hk' => by
  rcases h.2 with ⟨rfl, -⟩ | ⟨g, c, cur, rfl, -, hg, -⟩
  · simp [Value.ownBlock] at hk
  · rcases h'.2 with ⟨rfl, -⟩ | ⟨g', c', cur', rfl, -, hg', -⟩
    · simp [Value.ownBlock] at hk'
    · simp only [Value.ownBlock, Option.some.injEq] at hk hk'
      subst hk
      subst hk'
      rw [hg] at hg'
      simp only [Option.some.injEq, Obj.cells.injEq] at hg'
      exact hne hg'.2.1
theorem pz_snoc (L : List Pt) (p : Pt) : pz (L ++ [p]) = pz L ++ [.int .i64 p.1, .slice p.2.1 p.2.2.1 p.2.2.2] := pz_append L [p]
section
variable {w w' : World} {own : Nat → Nat} {gw gp gm gt M M' : Nat} {vk : Value} {ks : List Kind} {gs fr gs' fr' : List Nat} {f f' : Int × Int → Option Nat} {q q' : Nat → Option Nat} {T T' : Nat → Ts}
/-- Parts in memory of their own, and one that was handed in. -/
def Ap1 (w W : World) (ks : List Kind) (s : Nat) (row : List Int) (p : Pt) (v : Value) (L : List Pt) : Prop :=
  W.ownsRow w.heap.size 32 2 v (L ++ [p]).length (pz (L ++ [p])) ∧ Pv w.heap.size W L (partsL ks s 1 row) ∧ Below w.heap.size w W
theorem Ap1.pg {W : World} {s : Nat} {row : List Int} {p : Pt} {v : Value} {L : List Pt} (h : Ap1 w W ks s row p v L) (hr : row.length = fsum ks s 1) (hc : comeS ks s p.1 p.2.2.1 = 0) : Pg ks (L ++ [p]) ∧ L.map (fun p => p.1.toNat) = (partsL ks s 1 row).map (·.1) := by
  obtain ⟨-, ⟨h1, h2⟩, -⟩ := h
  obtain ⟨c1, c2, c3, c4⟩ := comeS_zero hc
  have hm : L.map (fun p => p.1.toNat) = (partsL ks s 1 row).map (·.1) := by
    refine List.ext_getElem (by simp [h1]) (fun i i1 i2 => ?_)
    simp only [List.length_map] at i1 i2
    rw [List.getElem_map, List.getElem_map, (h2 i i1 i2).1]
    simp
  have hLn : ∀ x ∈ L, ∃ r ∈ partsL ks s 1 row, x.1 = (r.1 : Int) ∧ x.2.2.1 = r.2.length := fun x hx => by
    obtain ⟨i, hi, rfl⟩ := List.getElem_of_mem hx
    obtain ⟨k1, k2⟩ := h2 i hi (by omega)
    refine ⟨_, List.getElem_mem (by omega : i < (partsL ks s 1 row).length), k1, ?_⟩
    obtain ⟨ao, c, e⟩ := own_len k2
    simp only [ptV, Value.slice.injEq] at e
    exact e.2.1
  refine ⟨⟨fun x hx => ?_, ?_⟩, hm⟩
  · rcases List.mem_append.1 hx with hx | hx
    · obtain ⟨r, hr', e1, e2⟩ := hLn x hx
      have m1 := partsL_mem ks s 1 row r hr'
      have m2 := partsL_len ks s 1 row hr r hr'
      refine ⟨by omega, by omega, ?_⟩
      rw [e2, m2, e1]
      simp
    · rw [List.mem_singleton.1 hx]
      exact ⟨c1, c2, c4⟩
  · rw [List.map_append, List.nodup_append]
    refine ⟨?_, by simp, fun x hx y hy e => ?_⟩
    · have : L.map (fun p => p.1.toNat - 1) = (partsL ks s 1 row).map (fun r => r.1 - 1) := by
        have := congrArg (List.map (fun n => n - 1)) hm
        simpa [List.map_map, Function.comp_def] using this
      rw [this]
      refine List.pairwise_map.2 (List.Pairwise.imp_of_mem (fun {x y} hx hy hlt => ?_) (partsL_pair ks s 1 row))
      have a1 := partsL_mem ks s 1 row x hx
      have a2 := partsL_mem ks s 1 row y hy
      omega
    · obtain ⟨z, hz, rfl⟩ := List.mem_map.1 hx
      obtain ⟨r, hr', e1, e2⟩ := hLn z hz
      have m1 := partsL_mem ks s 1 row r hr'
      simp only [List.map_cons, List.map_nil, List.mem_singleton] at hy
      have : r.1 = p.1.toNat := by omega
      rw [this] at m1
      rw [m1.2.2] at c3
      cases c3
theorem set_all {s : Nat} {row : List Int} {L : List Pt} (hsb : Sb ks s) (hm : L.map (fun p => p.1.toNat) = (partsL ks s 1 row).map (·.1)) : setOf L = s := by
  refine Nat.eq_of_testBit_eq (fun k => ?_)
  rw [setOf_bit]
  have h1 : (L.any fun p => p.1.toNat == k) = true ↔ k ∈ L.map (fun p => p.1.toNat) := by
    rw [List.any_eq_true, List.mem_map]
    exact ⟨fun ⟨p, hp, e⟩ => ⟨p, hp, beq_iff_eq.1 e⟩, fun ⟨p, hp, e⟩ => ⟨p, hp, beq_iff_eq.2 e⟩⟩
  have h2 : k ∈ (partsL ks s 1 row).map (·.1) ↔ s.testBit k = true := by
    rw [List.mem_map]
    constructor
    · rintro ⟨r, hr, rfl⟩
      exact (partsL_mem ks s 1 row r hr).2.2
    · intro hk
      have := hsb k hk
      obtain ⟨r, hr, e⟩ := partsL_all ks s 1 row k this.1 (by omega) hk
      exact ⟨r, hr, e⟩
  rw [hm] at h1
  exact Bool.eq_iff_iff.2 (h1.trans h2)
theorem Ap1.made {w5 w6 w9 : World} {B5 s : Nat} {row : List Int} {x : Int} {av a5 : Option Addr} {nv cv c5 g9 c9 : Nat} {L : List Pt} (ho : w5.ownsRow B5 32 2 (.slice a5 L.length c5) L.length (pz L)) (hv : Pv B5 w5 L (partsL ks s 1 row)) (hb : Below w.heap.size w w5) (hB : w.heap.size ≤ B5) (hb6 : Below w5.heap.size w5 w6) (ho9 : w9.ownsRow w.heap.size 32 2 (.slice (some ⟨g9, 0, none⟩) (L.length + 1) c9) (L.length + 1) (pz L ++ [.int .i64 x, .slice av nv cv])) (hg9 : w6.grownBy w9 (Value.slice a5 L.length c5).ownBlock) : Ap1 w w9 ks s row (x, av, nv, cv) (.slice (some ⟨g9, 0, none⟩) (L.length + 1) c9) L := by
  have o6 := own_later ho hb6
  have v6 := hv.later hb6
  refine ⟨?_, ?_, (below_on hb hb6).grown hg9 (below_on hb hb6).size (fun k e => by have := (ho.lt k e).1; omega)⟩
  · rw [pz_snoc, List.length_append]
    exact ho9
  · have := v6.grown hg9 (fun p hp k e e2 => by
      obtain ⟨m, hm, rfl⟩ := List.getElem_of_mem hp
      exact own_kinds (v6.2 m hm (by rw [← v6.1]; exact hm)).2 o6 (by decide) e e2)
    exact ⟨this.1, fun i h1 h2 => ⟨(this.2 i h1 h2).1, own_lower (this.2 i h1 h2).2 hB⟩⟩
/-- What was put on stays while only what is the world's is written; then it is put. -/
theorem Ap1.put {W W' : World} {own1 : Nat → Nat} {s : Nat} {row vals : List Int} {x : Int} {av : Option Addr} {nv cv : Nat} {v : Value} {L : List Pt} (h : Ap1 w W ks s row (x, av, nv, cv) v L) (hr : row.length = fsum ks s 1) (hsb : Sb ks s) (hc : comeS ks s x nv = 0) (hks : ks.length ≤ 12) (hk4 : ∀ x ∈ ks, x.2.length ≤ 4)
    (hvs : Iz w (.slice av nv cv) vals) (hav : av = none → (nv, cv) = (0, 0)) (hv0 : ∀ k, (Value.slice av nv cv).ownBlock = some k → own k = 0 ∧ k < w.heap.size)
    (hX : Wx 0 W' own1 gw vk gp gm gt M ks gs fr f q T) (hK : Wk (rel own w 0) own1 W W') (hw : Wi ks f q T) (a b : Int) (hib : InB (a, b)) (hfn : f (a, b) = none) (hcnt : ∀ E : List (Int × Int), E.Nodup → (∀ e ∈ E, (f e).isSome = true) → E.length < 200) (hM : M ≤ 900000) :
    Calls Tryz.prog 67 #[.pointer (some ⟨gw, 0, none⟩), .agg #[.int .i64 a, .int .i64 b], v] W' fun e w' => e = .returned (.tuple #[]) ∧ ∃ (vals' : List Int) (g : Nat) (own' : Nat → Nat), Wx 0 w' own' gw vk gp gm gt (M + 3) ks gs fr (fun y => if y = (a, b) then some (s ||| 2 ^ x.toNat) else f y) (fun y => if y = s ||| 2 ^ x.toNat then some g else q y) (moreT q T (s ||| 2 ^ x.toNat) (a, b) vals') ∧ Wk own own' w w' ∧ Wi ks (fun y => if y = (a, b) then some (s ||| 2 ^ x.toNat) else f y) (fun y => if y = s ||| 2 ^ x.toNat then some g else q y) (moreT q T (s ||| 2 ^ x.toNat) (a, b) vals') ∧ vals'.length = fsum ks (s ||| 2 ^ x.toNat) 1 ∧ ∀ r, r ∈ partsL ks (s ||| 2 ^ x.toNat) 1 vals' ↔ r ∈ partsL ks s 1 row ∨ r = (x.toNat, vals) := by
  obtain ⟨hpg, hmap⟩ := h.pg hr hc
  obtain ⟨h1, h2, h3⟩ := h
  have hset : setOf (L ++ [(x, av, nv, cv)]) = s ||| 2 ^ x.toNat := by rw [setOf_push, set_all hsb hmap]
  have hnew : ∀ k, w.heap.size ≤ k → rel own w 0 k = 0 := fun k hk => rel_new hk
  have hm := hK.2
  have o1 : W'.ownsRow w.heap.size 32 2 v (L ++ [(x, av, nv, cv)]).length (pz (L ++ [(x, av, nv, cv)])) := hm.own h1 (fun k e e2 => e2.1 (hnew k (h1.lt k e).1))
  have hIzL : ∀ (i : Nat) (i1 : i < L.length) (i2 : i < (partsL ks s 1 row).length), Iz W' (ptV L[i]) (partsL ks s 1 row)[i].2 := fun i i1 i2 => by
    have hb := (h2.2 i i1 i2).2
    exact Iz.own (hm.own hb (fun k e e2 => e2.1 (hnew k (hb.lt k e).1)))
  have hIzp : Iz W' (.slice av nv cv) vals := (hvs.later h3).frame hm (fun k e e2 => e2.1 ((rel_old (hv0 k e).2).trans (hv0 k e).1))
  have hV : ∀ p ∈ L ++ [(x, av, nv, cv)], Iz W' (ptV p) (valsOf W' (ptV p)) ∧ (p.2.1 = none → p.2.2 = (0, 0)) := fun p hp => by
    rcases List.mem_append.1 hp with hp | hp
    · obtain ⟨i, hi, rfl⟩ := List.getElem_of_mem hp
      have i2 : i < (partsL ks s 1 row).length := by rw [← h2.1]; exact hi
      have := hIzL i hi i2
      refine ⟨by rw [this.vals]; exact this, fun e => ?_⟩
      rcases (h2.2 i hi i2).2.2 with ⟨e', -⟩ | ⟨g, c, cur, e', -⟩
      · simp only [ptV, Value.slice.injEq] at e'
        exact Prod.ext e'.2.1 e'.2.2
      · simp only [ptV, Value.slice.injEq] at e'
        rw [e] at e'
        cases e'.1
    · rw [List.mem_singleton.1 hp]
      exact ⟨by rw [show valsOf W' (ptV (x, av, nv, cv)) = vals from hIzp.vals]; exact hIzp, hav⟩
  refine (put_parts hX hw hks hk4 a b hib hfn hcnt hM v (L ++ [(x, av, nv, cv)]) (fun p => valsOf W' (ptV p)) (Rp.own o1) hpg hV).mono ?_
  rintro e w' ⟨rfl, vals', g, own', r1, r2, r3, r4, r5⟩
  rw [hset] at r1 r3 r4 r5
  refine ⟨rfl, vals', g, own', r1, ?_, r3, r4, fun r => ?_⟩
  · exact ((Wk.later h3).trans hK).trans r2
  · rw [r5]
    constructor
    · rintro ⟨p, hp, rfl⟩
      rcases List.mem_append.1 hp with hp | hp
      · obtain ⟨i, hi, rfl⟩ := List.getElem_of_mem hp
        have i2 : i < (partsL ks s 1 row).length := by rw [← h2.1]; exact hi
        left
        rw [(hIzL i hi i2).vals, (h2.2 i hi i2).1]
        exact List.getElem_mem i2
      · rw [List.mem_singleton.1 hp]
        right
        rw [show valsOf W' (ptV (x, av, nv, cv)) = vals from hIzp.vals]
    · rintro (hr' | rfl)
      · obtain ⟨i, hi, rfl⟩ := List.getElem_of_mem hr'
        have i1 : i < L.length := by rw [h2.1]; exact hi
        refine ⟨L[i], List.mem_append_left _ (List.getElem_mem i1), ?_⟩
        rw [(hIzL i i1 hi).vals, (h2.2 i i1 hi).1]
        rfl
      · exact ⟨(x, av, nv, cv), by simp, by rw [show valsOf W' (ptV (x, av, nv, cv)) = vals from hIzp.vals]⟩
end
end Go.Proofs.YtafmiolehlagkaaGreat
