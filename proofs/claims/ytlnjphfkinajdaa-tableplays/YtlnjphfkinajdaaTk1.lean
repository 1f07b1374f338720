/-
  The law's takes: numbers are written over, held, grown, held again.
-/
import Derived.Test.YtlnjphfkinajdaaTk0
namespace Go.Proofs.Ytlnjphfkinajdaa
open Go.RowKit
def Fk (gw : Nat) (vi vm v : Value) : Nat → Prop := fun k => k = gw ∨ vi.ownBlock = some k ∨ vm.ownBlock = some k ∨ v.ownBlock = some k
/-- From w on, where the lists were vi0, the marks vm0. -/
def Ty (w W : World) (gw : Nat) (vl vi0 vm0 v vi vm : Value) (G : Nat → Nat × Nat) (n : Nat) (I : List Value) (Z : List Int) : Prop :=
  Wx W gw vl vi vm G n I Z ∧ Mv w W (Fk gw vi0 vm0 v) ∧ (∀ q, vi.ownBlock = some q → vi0.ownBlock = some q ∨ w.heap.size ≤ q) ∧ (∀ q, vm.ownBlock = some q → vm0.ownBlock = some q ∨ w.heap.size ≤ q)
/-- Numbers that lie apart from the law's own things. -/
def Rv (w : World) (gw : Nat) (vl vi vm u : Value) (n : Nat) (l : List Int) : Prop :=
  w.ownsRow 0 2 1 u n (zc l) ∧ u.ownBlock ≠ some gw ∧ Ap u vl ∧ Ap u vi ∧ Ap u vm
section
variable {w W W1 W' : World} {gw n : Nat} {vl vi0 vm0 v vi vm v' u : Value} {G : Nat → Nat × Nat} {I : List Value} {Z : List Int} {nv : Nat} {l : List Int}
theorem Ty.start (h : Wx w gw vl vi vm G n I Z) (v : Value) : Ty w w gw vl vi vm v vi vm G n I Z := ⟨h, Mv.refl _ _, fun _ e => .inl e, fun _ e => .inl e⟩
theorem Ty.write (h : Ty w W gw vl vi0 vm0 v vi vm G n I Z) (hr : Rv W gw vl vi vm v nv l) (hm : Mv W W' (fun k => v.ownBlock = some k)) : Ty w W' gw vl vi0 vm0 v vi vm G n I Z := by
  obtain ⟨h1, h2, h3, h4⟩ := h
  obtain ⟨-, r0, r1, r2, r3⟩ := hr
  exact ⟨h1.frame hm r0 (fun k e e' => r1 k e' e) (fun k e e' => r2 k e' e) (fun k e e' => r3 k e' e), h2.trans hm (fun k _ e => .inr (.inr (.inr e))), h3, h4⟩
theorem Ty.later (h : Ty w W gw vl vi0 vm0 v vi vm G n I Z) (hb : Below W.heap.size W W') : Ty w W' gw vl vi0 vm0 v vi vm G n I Z :=
  ⟨h.1.later hb, h.2.1.later hb, h.2.2⟩
theorem Ty.list {x : Value} (h : Ty w W gw vl vi0 vm0 v vi vm G n I Z) (hb : Below W.heap.size W W1) (ho : W'.ownsRow 0 27 1 v' (I.length + 1) (I ++ [x])) (hg : W1.grownBy W' vi.ownBlock) (ha : v'.ownBlock = vi.ownBlock ∨ v'.ownBlock = some W1.heap.size) :
    (W'.cell? ⟨gw, 1, none⟩ = some vi ∧ W'.frozen? ⟨gw, 1, none⟩ = false) ∧ Ty w (W'.setCell ⟨gw, 1, none⟩ v') gw vl vi0 vm0 v v' vm G n (I ++ [x]) Z ∧ ∀ (u : Value) (nu : Nat) (lu : List Int), Rv W gw vl vi vm u nu lu → Rv (W'.setCell ⟨gw, 1, none⟩ v') gw vl v' vm u nu lu := by
  obtain ⟨h1, h2, h3, h4⟩ := h
  obtain ⟨a1, a2, a3⟩ := h1.list hb ho hg ha
  have hvb : ∀ q, v'.ownBlock = some q → vi.ownBlock = some q ∨ W.heap.size ≤ q := fun q e => by
    have := hb.size
    rcases ha with h | h
    · exact .inl (h ▸ e)
    · rw [e] at h; have := Option.some.inj h; exact .inr (by omega)
  refine ⟨a1, ⟨a2, h2.trans a3 (fun k hk e => ?_), fun q e => ?_, h4⟩, fun u nu lu hr => ?_⟩
  · rcases e with e | e
    · exact .inl e
    · rcases h3 k e with h | h
      · exact .inr (.inl h)
      · omega
  · rcases hvb q e with h | h
    · exact h3 q h
    · exact .inr (Nat.le_trans h2.size h)
  · obtain ⟨r, r0, r1, r2, r3⟩ := hr
    refine ⟨a3.own r (fun q e e' => ?_), r0, r1, fun q e1 e2 => ?_, r3⟩
    · rcases e' with rfl | e'
      · exact r0 e
      · exact r2 q e e'
    · rcases hvb q e2 with h | h
      · exact r2 q e1 h
      · have := (r.lt q e1).2; omega
theorem Ty.mark {x : Int} (h : Ty w W gw vl vi0 vm0 v vi vm G n I Z) (hb : Below W.heap.size W W1) (ho : W'.ownsRow 0 2 1 v' (Z.length + 1) (zc Z ++ [.int .i64 x])) (hg : W1.grownBy W' vm.ownBlock) (ha : v'.ownBlock = vm.ownBlock ∨ v'.ownBlock = some W1.heap.size) :
    (W'.cell? ⟨gw, 2, none⟩ = some vm ∧ W'.frozen? ⟨gw, 2, none⟩ = false) ∧ Ty w (W'.setCell ⟨gw, 2, none⟩ v') gw vl vi0 vm0 v vi v' G n I (Z ++ [x]) ∧ ∀ (u : Value) (nu : Nat) (lu : List Int), Rv W gw vl vi vm u nu lu → Rv (W'.setCell ⟨gw, 2, none⟩ v') gw vl vi v' u nu lu := by
  obtain ⟨h1, h2, h3, h4⟩ := h
  obtain ⟨a1, a2, a3⟩ := h1.mark hb ho hg ha
  have hvb : ∀ q, v'.ownBlock = some q → vm.ownBlock = some q ∨ W.heap.size ≤ q := fun q e => by
    have := hb.size
    rcases ha with h | h
    · exact .inl (h ▸ e)
    · rw [e] at h; have := Option.some.inj h; exact .inr (by omega)
  refine ⟨a1, ⟨a2, h2.trans a3 (fun k hk e => ?_), h3, fun q e => ?_⟩, fun u nu lu hr => ?_⟩
  · rcases e with e | e
    · exact .inl e
    · rcases h4 k e with h | h
      · exact .inr (.inr (.inl h))
      · omega
  · rcases hvb q e with h | h
    · exact h4 q h
    · exact .inr (Nat.le_trans h2.size h)
  · obtain ⟨r, r0, r1, r2, r3⟩ := hr
    refine ⟨a3.own r (fun q e e' => ?_), r0, r1, r2, fun q e1 e2 => ?_⟩
    · rcases e' with rfl | e'
      · exact r0 e
      · exact r3 q e e'
    · rcases hvb q e2 with h | h
      · exact r3 q e1 h
      · have := (r.lt q e1).2; omega
theorem rep_set (m : Int) (xs : List Int) (i : Nat) (h : i < xs.length) : (List.replicate i m ++ xs.drop i).set i m = List.replicate (i + 1) m ++ xs.drop (i + 1) := by
  rw [List.set_append_right _ _ (by simp), List.length_replicate, Nat.sub_self, List.drop_eq_getElem_cons h, List.set_cons_zero, List.replicate_succ', List.append_assoc]
  rfl
/-- A number more behind a row c that began as v. -/
theorem Ty.grow {m : Int} {c c' : Value} {k : Nat} (h : Ty w W gw vl vi0 vm0 v vi vm G n I Z) (hv : Rv W gw vl vi vm v nv (List.replicate nv m)) (hc : Rv W gw vl vi vm c (nv + k) (List.replicate (nv + k) m)) (hcb : ∀ q, c.ownBlock = some q → v.ownBlock = some q ∨ w.heap.size ≤ q) (hb : Below W.heap.size W W1)
    (ho : W'.ownsRow 0 2 1 c' (nv + k + 1) (zc (List.replicate (nv + k) m) ++ [.int .i64 m])) (hg : W1.grownBy W' c.ownBlock) (ha : c'.ownBlock = c.ownBlock ∨ c'.ownBlock = some W1.heap.size) (hst : W'.ownsRow 0 2 1 c (nv + k) (zc (List.replicate (nv + k) m))) :
    Ty w W' gw vl vi0 vm0 v vi vm G n I Z ∧ Rv W' gw vl vi vm v nv (List.replicate nv m) ∧ Rv W' gw vl vi vm c' (nv + (k + 1)) (List.replicate (nv + (k + 1)) m) ∧ ∀ q, c'.ownBlock = some q → v.ownBlock = some q ∨ w.heap.size ≤ q := by
  obtain ⟨h1, h2, h3, h4⟩ := h
  obtain ⟨c0, c1, c2, c3, c4⟩ := hc
  obtain ⟨r, r0, r1, r2, r3⟩ := hv
  have hm : Mv W W' (fun q => c.ownBlock = some q) := (Mv.of_below hb _).grown hg (fun q _ e => e)
  have hsz := hb.size
  have hcb' : ∀ q, c'.ownBlock = some q → c.ownBlock = some q ∨ W.heap.size ≤ q := fun q e => by
    rcases ha with h | h
    · exact .inl (h ▸ e)
    · rw [e] at h; have := Option.some.inj h; exact .inr (by omega)
  refine ⟨⟨h1.frame hm c1 (fun q e e' => c2 q e' e) (fun q e e' => c3 q e' e) (fun q e e' => c4 q e' e), h2.trans hm (fun q hq e => ?_), h3, h4⟩, ⟨?_, r0, r1, r2, r3⟩, ⟨?_, fun e => ?_, fun q e1 e2 => ?_, fun q e1 e2 => ?_, fun q e1 e2 => ?_⟩, fun q e => ?_⟩
  · rcases hcb q e with h | h
    · exact .inr (.inr (.inr h))
    · omega
  · by_cases e : v.ownBlock = c.ownBlock
    · have := own_short r c0 hst (by omega) e
      rw [zc_take, List.take_replicate, Nat.min_eq_left (by omega)] at this
      exact this
    · exact hm.own r (fun q e1 e2 => e (e1.trans e2.symm))
  · have e : List.replicate (nv + (k + 1)) m = List.replicate (nv + k) m ++ [m] := by rw [← Nat.add_assoc, List.replicate_succ']
    rw [e, zc_append]
    exact ho
  · rcases hcb' gw e with h | h
    · exact c1 h
    · have := h1.lt; omega
  · rcases hcb' q e1 with h | h
    · exact c2 q h e2
    · have := (h1.2.1.lt q e2).2; omega
  · rcases hcb' q e1 with h | h
    · exact c3 q h e2
    · have := (h1.2.2.1.lt q e2).2; omega
  · rcases hcb' q e1 with h | h
    · exact c4 q h e2
    · have := (h1.2.2.2.1.lt q e2).2; omega
  · rcases hcb' q e with h | h
    · exact hcb q h
    · exact .inr (Nat.le_trans h2.size h)
end
end Go.Proofs.Ytlnjphfkinajdaa
