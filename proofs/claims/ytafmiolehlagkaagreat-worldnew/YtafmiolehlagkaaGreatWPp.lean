/-
  World: parts are put: what the world is then.
-/
import Derived.Test.YtafmiolehlagkaaGreatWMath
import Derived.Test.YtafmiolehlagkaaGreatWParts
namespace Go.Proofs.YtafmiolehlagkaaGreat
open Go.RowKit
set_option maxRecDepth 100000
/-- Parts that may stand together. -/
def Pg (ks : List Kind) (l : List Pt) : Prop := (∀ p ∈ l, 1 ≤ p.1 ∧ p.1 ≤ (ks.length : Int) ∧ p.2.2.1 = (ks.getD (p.1.toNat - 1) (ByteArray.empty, [])).2.length) ∧ (l.map (fun p => p.1.toNat - 1)).Nodup
theorem come_pg {ks : List Kind} {l : List Pt} {s : Nat} (h : comeL ks s l = 0) : Pg ks l := by
  obtain ⟨h1, h2, -⟩ := come_all ks l s h
  exact ⟨fun p hp => ⟨(h1 p hp).1, (h1 p hp).2.1, (h1 p hp).2.2.2⟩, h2⟩
theorem pg_come {ks : List Kind} : ∀ (l : List Pt) (s : Nat), Pg ks l → (∀ p ∈ l, s.testBit p.1.toNat = false) → comeL ks s l = 0
  | [], _, _, _ => rfl
  | p :: t, s, h, hs => by
    obtain ⟨h1, h2⟩ := h
    rw [List.map_cons, List.nodup_cons] at h2
    obtain ⟨a1, a2, a3⟩ := h1 p (by simp)
    have e : comeS ks s p.1 p.2.2.1 = 0 := by
      unfold comeS
      rw [if_pos ⟨a1, a2⟩, if_neg (by rw [hs p (by simp)]; simp), if_pos a3]
    unfold comeL
    rw [if_pos e]
    refine pg_come t _ ⟨fun x hx => h1 x (List.mem_cons_of_mem _ hx), h2.2⟩ (fun x hx => ?_)
    rw [bit_or, hs x (List.mem_cons_of_mem _ hx), Bool.false_or, decide_eq_false_iff_not]
    intro e
    have := h1 x (List.mem_cons_of_mem _ hx)
    exact h2.1 (List.mem_map.2 ⟨x, hx, by omega⟩)
theorem Pg.facts {ks : List Kind} {l : List Pt} (h : Pg ks l) (hk : ks.length ≤ 12) : l.length ≤ 12 ∧ (∀ p ∈ l, 1 ≤ p.1 ∧ p.1 ≤ 12) ∧ fsum ks (setOf l) 1 = nvals l ∧ Sb ks (setOf l) ∧ setOf l < 8192 := by
  have hc := pg_come l 0 h (fun p _ => by simp)
  obtain ⟨h1, h2, h3⟩ := come_twelve hc hk
  exact ⟨h1, h2, h3, come_sb hc, setOf_lt l h2⟩
theorem Iz.one {w : World} {v : Value} {l l' : List Int} (h : Iz w v l) (h' : Iz w v l') : l = l' := by
  obtain ⟨ao, c, rfl, h1, h2, h3⟩ := h
  obtain ⟨ao', c', e, h1', h2', h3'⟩ := h'
  simp only [Value.slice.injEq] at e
  obtain ⟨rfl, hl, rfl⟩ := e
  refine List.ext_getElem hl (fun i i1 i2 => ?_)
  obtain ⟨g, o, e1, e2⟩ := h3 i i1
  obtain ⟨g', o', e1', e2'⟩ := h3' i i2
  rw [e1] at e1'
  simp only [Option.some.injEq, Addr.mk.injEq, and_true] at e1'
  obtain ⟨rfl, rfl⟩ := e1'
  rw [e2] at e2'
  simpa using e2'
open Classical in
noncomputable def valsOf (w : World) (v : Value) : List Int := if h : ∃ l, Iz w v l then h.choose else []
theorem Iz.vals {w : World} {v : Value} {l : List Int} (h : Iz w v l) : valsOf w v = l := by
  unfold valsOf
  rw [dif_pos ⟨l, h⟩]
  exact Iz.one (Exists.choose_spec (⟨l, h⟩ : ∃ l, Iz w v l)) h
section
variable {w w' : World} {own : Nat → Nat} {gw gp gm gt M M' : Nat} {vk : Value} {ks : List Kind} {gs fr gs' fr' : List Nat} {f f' : Int × Int → Option Nat} {q q' : Nat → Option Nat} {T T' : Nat → Ts}
/-- What is told of the parts that were put. -/
theorem put_told {l l' : List Pt} {V : Pt → List Int} (hg : Pg ks l) (hk : ks.length ≤ 12) (hV : ∀ p ∈ l, (V p).length = p.2.2.1) (hp : l'.Perm l) (hs : l'.Pairwise (fun x y => x.1 ≤ y.1)) :
    (l'.flatMap V).length = fsum ks (setOf l) 1 ∧ partsL ks (setOf l) 1 (l'.flatMap V) = l'.map (fun p => (p.1.toNat, V p)) := by
  obtain ⟨f1, f2, f3, f4, f5⟩ := hg.facts hk
  have hm : ∀ p, p ∈ l' ↔ p ∈ l := fun p => hp.mem_iff
  have hlt : l'.Pairwise (fun x y => x.1 < y.1) := by
    have hn : (l'.map (fun p => p.1.toNat - 1)).Nodup := (hp.map _).nodup_iff.2 hg.2
    have hn2 := List.pairwise_map.1 hn
    refine List.Pairwise.imp_of_mem (fun {a b} ha hb h => ?_) (hs.and hn2)
    have a1 := hg.1 a ((hm a).1 ha)
    have b1 := hg.1 b ((hm b).1 hb)
    have := h.1
    have := h.2
    omega
  refine ⟨?_, ?_⟩
  · rw [f3, nvals_flat l' (fun p hp => hV p ((hm p).1 hp))]
    have : (l'.flatMap V).length = (l.flatMap V).length := (hp.flatMap_right V).length_eq
    rw [nvals_flat l' (fun p hp => hV p ((hm p).1 hp)), nvals_flat l hV] at this
    exact this
  · refine parts_of V ks (setOf l) 1 l' (fun p hp' => ?_) hlt (fun k k1 k2 => ?_)
    · have := hg.1 p ((hm p).1 hp')
      refine ⟨this.1, by omega, (hV p ((hm p).1 hp')).trans this.2.2⟩
    · rw [setOf_bit, List.any_eq_true]
      constructor
      · rintro ⟨p, hp', e⟩
        exact ⟨p, (hm p).2 hp', beq_iff_eq.1 e⟩
      · rintro ⟨p, hp', e⟩
        exact ⟨p, (hm p).1 hp', beq_iff_eq.2 e⟩
theorem put_parts (h : Wx 0 w own gw vk gp gm gt M ks gs fr f q T) (hw : Wi ks f q T) (hks : ks.length ≤ 12) (hk4 : ∀ x ∈ ks, x.2.length ≤ 4) (a b : Int) (hib : InB (a, b)) (hfn : f (a, b) = none) (hcnt : ∀ E : List (Int × Int), E.Nodup → (∀ e ∈ E, (f e).isSome = true) → E.length < 200) (hM : M ≤ 900000) (v : Value) (l : List Pt) (V : Pt → List Int) (hv : Rp w v l) (hg : Pg ks l) (hV : ∀ p ∈ l, Iz w (ptV p) (V p) ∧ (p.2.1 = none → p.2.2 = (0, 0))) :
    Calls Tryz.prog 67 #[.pointer (some ⟨gw, 0, none⟩), .agg #[.int .i64 a, .int .i64 b], v] w fun e w' => e = .returned (.tuple #[]) ∧ ∃ (vals : List Int) (g : Nat) (own' : Nat → Nat), Wx 0 w' own' gw vk gp gm gt (M + 3) ks gs fr (fun x => if x = (a, b) then some (setOf l) else f x) (fun x => if x = setOf l then some g else q x) (moreT q T (setOf l) (a, b) vals) ∧ Wk own own' w w' ∧ Wi ks (fun x => if x = (a, b) then some (setOf l) else f x) (fun x => if x = setOf l then some g else q x) (moreT q T (setOf l) (a, b) vals) ∧ vals.length = fsum ks (setOf l) 1 ∧ ∀ r, r ∈ partsL ks (setOf l) 1 vals ↔ ∃ p ∈ l, r = (p.1.toNat, V p) := by
  obtain ⟨f1, f2, f3, f4, f5⟩ := hg.facts hks
  have hVl : ∀ p ∈ l, (V p).length = p.2.2.1 := fun p hp => by
    obtain ⟨ao, c, e, -⟩ := (hV p hp).1
    simp only [ptV, Value.slice.injEq] at e
    exact e.2.1.symm
  have hl := nvals_flat l hVl
  have h48 := fsum_le ks (setOf l) 1 hk4
  refine (put_any h a b hib v l V hv f1 hV f2 (by omega) hM (fun g hg' => ?_)).mono ?_
  · obtain ⟨k1, k2, k3, k4, k5, k6⟩ := hw.2 _ g hg'
    refine ⟨fun hm => ?_, hcnt _ k3 (fun e he => by rw [k4 e he]; rfl), by rw [k2, hl, f3]⟩
    have := k4 _ hm
    rw [hfn] at this
    cases this
  · rintro e w' ⟨rfl, l', g, own', p1, p2, p3, p4⟩
    obtain ⟨t1, t2⟩ := put_told hg hks hVl p1 p2
    refine ⟨rfl, l'.flatMap V, g, own', p3, p4, hw.put hfn f5 f4 t1, t1, fun r => ?_⟩
    rw [t2, List.mem_map]
    constructor
    · rintro ⟨p, hp, rfl⟩
      exact ⟨p, p1.mem_iff.1 hp, rfl⟩
    · rintro ⟨p, hp, rfl⟩
      exact ⟨p, p1.mem_iff.2 hp, rfl⟩
end
end Go.Proofs.YtafmiolehlagkaaGreat
