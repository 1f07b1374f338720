/-
  Verify: what is taken, plain.
-/
import Derived.Test.YtklamaibinjcmaaDoorVgE
namespace Go.Proofs.YtklamaibinjcmaaDoor
/-- What is known of a routine of a program that is taken. -/
structure Gd (p : Pg) (ks : List Kind) (r : Ro) : Prop where
  ne : r.rt.code ≠ []
  len : r.rt.code.length ≤ 2000
  dpo : Dpo 150 151 153 p.fns r.rt.code none
  mt : ∀ a, a < r.rt.code.length → mtI p.fns.length ks r a = true
  cyc : ∀ a, a < r.rt.code.length → Rcd p.fns r.rt.code a → ¬ Cyc (Eg (stl r.rt.code r.rt.code.length)) a
  kin : ∀ q, q ∈ r.re ∨ q ∈ r.wr → 1 ≤ q ∧ q ≤ (ks.length : Int)
theorem vo_none {p : Pg} {ks : List Kind} (h : Vo p ks none) : mayB ks ∧ mayOk p = true ∧ ∀ k (hk : k < (rosOf p).length), Gd p ks (rosOf p)[k] := by
  rcases h with ⟨-, e⟩ | ⟨-, -, e⟩ | ⟨h1, h2, on, f1, h3⟩
  · cases e
  · cases e
  · refine ⟨h1, h2, fun k hk => ?_⟩
    rcases h3 with ⟨_, _, e⟩ | ⟨rfl, o1, t1, h4⟩
    · cases e
    · rcases h4 with ⟨_, _, e⟩ | ⟨rfl, on2, -, h5⟩
      · cases e
      · rcases h5 with ⟨_, _, e⟩ | ⟨rfl, o3, d3, h6⟩
        · cases e
        · rcases h6 with ⟨_, _, e⟩ | ⟨rfl, rn⟩
          · cases e
          · have hall := ros_all h2 _ (List.getElem_mem hk)
            have hkin := sets_kinds h2 f1 _ (List.getElem_mem hk)
            rcases d3 with ⟨-, d3⟩ | ⟨_, _, _, ⟨_, e⟩ | ⟨_, _, _, e⟩⟩
            · rcases t1 with ⟨-, t1⟩ | ⟨_, _, _, _, _, e⟩
              · rcases rn with ⟨-, rn⟩ | ⟨_, _, _, _, _, e⟩
                · refine ⟨(d3 k hk).1, by omega, (d3 k hk).2, fun a ha => ?_, fun a ha hr hc => rn k hk a ha ⟨hr, hc⟩, hkin.1⟩
                  cases hb : mtI p.fns.length ks (rosOf p)[k] a with
                  | true => rfl
                  | false => exact absurd ⟨hk, a, ha, .inl hb⟩ (t1 k hk)
                · cases e
              · cases e
            · cases e
            · cases e
section
variable {p : Pg} {ks : List Kind} {r : Ro}
theorem Gd.ok (h : Gd p ks r) {a d : Nat} (hr : Rch p.fns r.rt.code a d) : a < r.rt.code.length ∧ dpR p.fns r.rt.code a = (d : Int) ∧ (isJ (iat r.rt.code a) = true → thereI r.rt.code (iat r.rt.code a).a = true) ∧ (∃ d', behI p.fns r.rt.code a d = some d') ∧ ∀ x ∈ nextI r.rt.code a, 0 ≤ x ∧ x < r.rt.code.length := by
  have hpos : 0 < r.rt.code.length := by
    have := h.ne
    cases hc : r.rt.code with
    | nil => exact absurd hc this
    | cons _ _ => simp
  have ha := (hr.lt hpos).1
  have hw : wrR 150 151 153 p.fns r.rt.code a = 0 := by
    apply Classical.byContradiction
    intro c
    exact h.dpo a ha ⟨⟨d, hr⟩, c⟩
  obtain ⟨-, h2, h3, h4, h5⟩ := wrR_ok (by decide) (by decide) (by decide) hr hw
  exact ⟨ha, h2, h3, h4, h5⟩
/-- What may come behind an instruction. -/
theorem Gd.next (h : Gd p ks r) {a d d' : Nat} (hr : Rch p.fns r.rt.code a d) (hb : behI p.fns r.rt.code a d = some d') {y : Nat} (hy : (y : Int) ∈ nextI r.rt.code a) : y ∈ onwI r.rt.code a ∧ Rch p.fns r.rt.code y d' := by
  have h5 := (h.ok hr).2.2.2.2 _ hy
  have hm : y ∈ onwI r.rt.code a := by
    unfold onwI
    refine List.mem_map.2 ⟨(y : Int), List.mem_filter.2 ⟨hy, decide_eq_true h5⟩, by simp⟩
  exact ⟨hm, hr.on hb hm⟩
theorem beh_some {fs : List Rt} {c : List Ins} {a d d' : Nat} (h : behI fs c a d = some d') : ¬ (d : Int) < takE fs (iat c a) ∧ (d : Int) - takE fs (iat c a) + putE (iat c a) = (d' : Int) ∧ (d' : Int) ≤ 64 := by
  unfold behI at h
  split at h
  · cases h
  · split at h
    · rename_i h1 h2
      have h3 : 0 ≤ putE (iat c a) := by unfold putE; omega
      simp only [Option.some.injEq] at h
      exact ⟨h1, by omega, by omega⟩
    · cases h
/-- The way since the last step. -/
structure Wy (p : Pg) (r : Ro) (l : List Nat) (a : Nat) : Prop where
  ch : Chain (Eg (stl r.rt.code r.rt.code.length)) l
  ok : ∀ x ∈ l, x < r.rt.code.length ∧ Rcd p.fns r.rt.code x
  last : ∀ (h0 : 0 < l.length), a ∈ Eg (stl r.rt.code r.rt.code.length) (l[l.length - 1]'(by omega))
theorem Wy.start (a : Nat) : Wy p r [] a := ⟨fun i h => absurd h (by simp), fun x hx => (by cases hx), fun h => absurd h (by simp)⟩
theorem Wy.short (h : Gd p ks r) {l : List Nat} {a : Nat} (hw : Wy p r l a) : l.length ≤ r.rt.code.length := hw.ch.short (fun x hx => (hw.ok x hx).1) (fun x hx => h.cyc x (hw.ok x hx).1 (hw.ok x hx).2)
/-- One more, that is no step. -/
theorem Wy.more {l : List Nat} {a y d : Nat} (hw : Wy p r l a) (ha : a < r.rt.code.length) (hr : Rch p.fns r.rt.code a d) (h1 : (iat r.rt.code a).op ≠ 24) (h2 : (iat r.rt.code a).op ≠ 21) (hy : y ∈ onwI r.rt.code a) : Wy p r (l ++ [a]) y := by
  refine ⟨hw.ch.snoc hw.last, fun x hx => ?_, fun h0 => ?_⟩
  · rw [List.mem_append, List.mem_singleton] at hx
    rcases hx with hx | rfl
    · exact hw.ok x hx
    · exact ⟨ha, d, hr⟩
  · have e : (l ++ [a])[(l ++ [a]).length - 1]'(by omega) = a := by simp
    rw [e, Eg_at (by simp [stl]; exact ha)]
    simp only [stl, List.getElem_map, List.getElem_range]
    rw [if_pos ha]
    unfold stlI
    rw [if_pos ⟨h1, h2⟩]
    exact hy
theorem Wy.mid (h : Gd p ks r) {l : List Nat} {a d : Nat} (hw : Wy p r l a) (ha : a < r.rt.code.length) (hr : Rch p.fns r.rt.code a d) : l.length + 1 ≤ r.rt.code.length := by
  have hc := hw.ch.snoc hw.last
  have := hc.short (n := r.rt.code.length) (fun x hx => by
    rw [List.mem_append, List.mem_singleton] at hx
    rcases hx with hx | rfl
    · exact (hw.ok x hx).1
    · exact ha) (fun x hx => by
    rw [List.mem_append, List.mem_singleton] at hx
    rcases hx with hx | rfl
    · exact h.cyc x (hw.ok x hx).1 (hw.ok x hx).2
    · exact h.cyc x ha ⟨d, hr⟩)
  rw [List.length_append, List.length_singleton] at this
  exact this
end
end Go.Proofs.YtklamaibinjcmaaDoor
