/-
  Plan's law: given: what lies in memory.
-/
import Derived.Test.YthgjdmomcpcolaaSm
namespace Go.Proofs.Ythgjdmomcpcolaa
open Go.RowKit
set_option maxRecDepth 100000
theorem own_base {W W' : World} {T : Nat → Prop} {B e s n : Nat} {v : Value} {xs : List Value} (h : W.ownsRow B e s v n xs) (hm : Mv W W' T) (hT : ∀ k, T k → k < B) : W'.ownsRow B e s v n xs :=
  hm.own h (fun k hk e => by have := (h.lt k hk).1; have := hT k e; omega)
theorem Ac.base {W W' : World} {T : Nat → Prop} {B : Nat} {va vb : Value} {s : Sy} (h : Ac W B va vb s) (hm : Mv W W' T) (hT : ∀ k, T k → k < B) : Ac W' B va vb s := ⟨own_base h.1 hm hT, own_base h.2.1 hm hT, h.2.2⟩
theorem Pl.base {W W' : World} {T : Nat → Prop} {B g : Nat} {L : List Sy} (h : Pl W B g L) (hm : Mv W W' T) (hT : ∀ k, T k → k < B) : Pl W' B g L := by
  obtain ⟨va, vs, vt, rs, sts, h1, h2, h3, h4, h5, h6, h7⟩ := h
  refine ⟨va, vs, vt, rs, sts, hm.at h1 (fun e => by have := hT g e; omega), ⟨own_base h2.1 hm hT, h2.2.1, fun i k1 k2 => (h2.2.2 i k1 k2).base hm hT⟩, ⟨own_base h3.1 hm hT, h3.2.1, fun j k1 k2 => own_base (h3.2.2.1 j k1 k2) hm hT, h3.2.2.2⟩, h4, h5, h6, h7⟩
theorem Yo.base {W W' : World} {T : Nat → Prop} {B : Nat} {v : Value} {ys : List Yc} {L : List Sy} (h : Yo W B v ys L) (hm : Mv W W' T) (hT : ∀ k, T k → k < B) : Yo W' B v ys L :=
  ⟨own_base h.1 hm hT, h.2.1, fun i h1 h2 => (h.2.2.1 i h1 h2).base hm hT, h.2.2.2⟩
theorem Pl.lower {W : World} {B B' g : Nat} {L : List Sy} (h : Pl W B g L) (hB : B' ≤ B) : Pl W B' g L := by
  obtain ⟨va, vs, vt, rs, sts, h1, h2, h3, h4, h5, h6, h7⟩ := h
  exact ⟨va, vs, vt, rs, sts, h1, ⟨own_lower h2.1 hB, h2.2.1, fun i k1 k2 => ⟨own_lower (h2.2.2 i k1 k2).1 hB, own_lower (h2.2.2 i k1 k2).2.1 hB, (h2.2.2 i k1 k2).2.2⟩⟩, ⟨own_lower h3.1 hB, h3.2.1, fun j k1 k2 => own_lower (h3.2.2.1 j k1 k2) hB, h3.2.2.2⟩, h4, h5, h6, Nat.le_trans hB h7⟩
theorem Lt.mv {W W' : World} {T : Nat → Prop} {B : Nat} {v : Value} {l : List Int} (h : Lt W B v l) (hm : Mv W W' T) (h1 : ∀ k, v.ownBlock = some k → ¬ T k) : Lt W' B v l := by
  obtain ⟨g, c, rfl, h2⟩ := h
  exact ⟨g, c, rfl, hm.own h2 (fun k hk => h1 k (by simpa [Value.ownBlock] using hk))⟩
theorem Lt.later {W W' : World} {B : Nat} {v : Value} {l : List Int} (h : Lt W B v l) (hb : Below W.heap.size W W') : Lt W' B v l := h.mv (Mv.of_below hb (fun _ => False)) (fun _ _ e => e)
theorem Lt.lower {W : World} {B B' : Nat} {v : Value} {l : List Int} (h : Lt W B v l) (hB : B' ≤ B) : Lt W B' v l := by
  obtain ⟨g, c, rfl, h2⟩ := h
  exact ⟨g, c, rfl, own_lower h2 hB⟩
theorem Lt.lt {W : World} {B : Nat} {v : Value} {l : List Int} (h : Lt W B v l) : ∀ k, v.ownBlock = some k → B ≤ k ∧ k < W.heap.size := fun k hk => h.row.lt k hk
/-- A system's cells, one put in anew. -/
theorem yc_set : ∀ (l : List Yc) (i : Nat) (h : i < l.length) (k : Nat) (_hk : k < 8) (y' : Yc) (u : Value), (y8 l[i]).set k u = y8 y' → (yc l).set (i * 8 + k) u = yc (l.set i y')
  | y :: t, 0, _, k, hk, y', u, he => by
    simp only [List.getElem_cons_zero] at he
    rw [Nat.zero_mul, Nat.zero_add, List.set_cons_zero]
    simp only [yc]
    rw [List.set_append_left _ _ (by simpa [y8] using hk), he]
  | y :: t, i + 1, h, k, hk, y', u, he => by
    have := yc_set t i (by simpa using h) k hk y' u (by simpa using he)
    simp only [yc, List.set_cons_succ]
    rw [List.set_append_right _ _ (by simp [y8]; omega), ← this]
    congr 2
    simp [y8]
    omega
/-- What is lent out: those from a up to b; those behind are as they were made. -/
def Gb (W : World) (N : Nat) (v : Value) (ys : List Yc) (L : List Sy) (a b : Nat) : Prop :=
  W.ownsRow N 56 8 v ys.length (yc ys) ∧ L.length ≤ ys.length ∧
  (∀ k (h1 : k < ys.length) (h2 : k < L.length), a ≤ k → k < b → Lt W N ys[k].2.2.1 L[k].1 ∧ Lt W N ys[k].2.2.2 L[k].2 ∧ Ap ys[k].2.2.1 ys[k].2.2.2) ∧
  (∀ k k' (h1 : k < ys.length) (h2 : k' < ys.length), k' < L.length → a ≤ k → k < b → a ≤ k' → k' < b → k < k' → (Ap ys[k].2.2.1 ys[k'].2.2.1 ∧ Ap ys[k].2.2.1 ys[k'].2.2.2) ∧ Ap ys[k].2.2.2 ys[k'].2.2.1 ∧ Ap ys[k].2.2.2 ys[k'].2.2.2) ∧
  (∀ k (h1 : k < ys.length) (h2 : k < L.length), b ≤ k → Ac W N ys[k].2.2.1 ys[k].2.2.2 L[k]) ∧
  (∀ k (h1 : k < ys.length), a ≤ k → k < L.length → (∃ a c, ys[k].1 = .slice a 2 c) ∧ ∃ a c, ys[k].2.1 = .slice a 1 c) ∧
  (∀ k (h1 : k < ys.length), L.length ≤ k → ∃ a c, ys[k] = (.slice none 0 0, .slice none 0 0, .slice none 0 0, .slice a 3 c))
theorem Gb.of {W : World} {N : Nat} {v : Value} {ys : List Yc} {L : List Sy} (h : Yo W N v ys L) : Gb W N v ys L 0 0 := by
  refine ⟨h.1, Nat.le_of_eq h.2.1.symm, fun k _ _ _ h => by omega, fun k k' _ _ _ _ h => by omega, fun k h1 h2 _ => h.2.2.1 k h1 h2, fun k h1 _ _ => h.2.2.2 _ (List.getElem_mem h1), fun k h1 h2 => by have := h.2.1; omega⟩
theorem Gb.later {W W' : World} {N : Nat} {v : Value} {ys : List Yc} {L : List Sy} {a b : Nat} (h : Gb W N v ys L a b) (hb : Below W.heap.size W W') : Gb W' N v ys L a b := by
  obtain ⟨h1, h2, h3, h4, h5, h6, h7⟩ := h
  exact ⟨own_later h1 hb, h2, fun k k1 k2 k3 k4 => ⟨(h3 k k1 k2 k3 k4).1.later hb, (h3 k k1 k2 k3 k4).2.1.later hb, (h3 k k1 k2 k3 k4).2.2⟩, h4, fun k k1 k2 k3 => (h5 k k1 k2 k3).later hb, h6, h7⟩
/-- One more is lent out. -/
theorem Gb.lend {W W1 W3 : World} {N g c n : Nat} {ys : List Yc} {L : List Sy} {i : Nat} {r s : Value} (h : Gb W N (.slice (some ⟨g, 0, none⟩) n c) ys L 0 i) (hi : i < L.length) (hN : N ≤ W.heap.size) (hb1 : Below W.heap.size W W1) (hr : Lt W1 W.heap.size r L[i].1) (hb3 : Below (W1.setCell ⟨g, i * 8 + 2, none⟩ r).heap.size (W1.setCell ⟨g, i * 8 + 2, none⟩ r) W3) (hs : Lt W3 (W1.setCell ⟨g, i * 8 + 2, none⟩ r).heap.size s L[i].2) (y : Yc) (hy : ∀ h : i < ys.length, ys[i] = y) :
    Gb (W3.setCell ⟨g, i * 8 + 3, none⟩ s) N (.slice (some ⟨g, 0, none⟩) n c) (ys.set i (y.1, y.2.1, r, s)) L 0 (i + 1) := by
  obtain ⟨h1, h2, h3, h4, h5, h6, h7⟩ := h
  have hiy : i < ys.length := by omega
  have hyi := hy hiy
  obtain ⟨ao, c', e0⟩ := own_len h1
  simp only [Value.slice.injEq] at e0
  obtain ⟨-, rfl, -⟩ := e0
  have m1 : Mv W (W1.setCell ⟨g, i * 8 + 2, none⟩ r) (fun q => q = g) := (Mv.of_below hb1 (fun q => q = g)).set (g := g) rfl _ _
  have m3 : Mv W W3 (fun q => q = g) := m1.later hb3
  have m4 : Mv W (W3.setCell ⟨g, i * 8 + 3, none⟩ s) (fun q => q = g) := m3.set (g := g) rfl _ _
  have o1 : (W1.setCell ⟨g, i * 8 + 2, none⟩ r).ownsRow N 56 8 (.slice (some ⟨g, 0, none⟩) ys.length c) ys.length (yc (ys.set i (y.1, y.2.1, r, y.2.2.2))) := by
    have := ((own_later h1 hb1).stored (i * 8 + 2) r).1
    rwa [yc_set ys i hiy 2 (by omega) (y.1, y.2.1, r, y.2.2.2) r (by rw [hyi]; rfl)] at this
  have o3 := own_later o1 hb3
  have o4 : (W3.setCell ⟨g, i * 8 + 3, none⟩ s).ownsRow N 56 8 (.slice (some ⟨g, 0, none⟩) ys.length c) ys.length (yc (ys.set i (y.1, y.2.1, r, s))) := by
    have := (o3.stored (i * 8 + 3) s).1
    rw [yc_set (ys.set i (y.1, y.2.1, r, y.2.2.2)) i (by simpa using hiy) 3 (by omega) (y.1, y.2.1, r, s) s (by simp [y8]), List.set_set] at this
    exact this
  have nb : ∀ {Wx : World} {x : Value} {lx : List Int} {B : Nat} {xs : List Value}, Wx.ownsRow N 56 8 (.slice (some ⟨g, 0, none⟩) ys.length c) ys.length xs → Rw Wx B x lx → ∀ k, x.ownBlock = some k → ¬ k = g := fun ho hx k hk e => own_apart ho hx (by decide) k (by rw [e]; rfl) hk
  have hsz1 : W.heap.size ≤ (W1.setCell ⟨g, i * 8 + 2, none⟩ r).heap.size := m1.size
  have hr1 : Lt (W1.setCell ⟨g, i * 8 + 2, none⟩ r) W.heap.size r L[i].1 := hr.mv ((Mv.refl W1 (fun q => q = g)).set (g := g) rfl _ _) (nb (own_later h1 hb1) hr.row)
  have hr3 := hr1.later hb3
  have hr4 : Lt (W3.setCell ⟨g, i * 8 + 3, none⟩ s) W.heap.size r L[i].1 := hr3.mv ((Mv.refl W3 (fun q => q = g)).set (g := g) rfl _ _) (nb o3 hr3.row)
  have hs4 : Lt (W3.setCell ⟨g, i * 8 + 3, none⟩ s) (W1.setCell ⟨g, i * 8 + 2, none⟩ r).heap.size s L[i].2 := hs.mv ((Mv.refl W3 (fun q => q = g)).set (g := g) rfl _ _) (nb o3 hs.row)
  have hro : ∀ k, r.ownBlock = some k → W.heap.size ≤ k ∧ k < (W1.setCell ⟨g, i * 8 + 2, none⟩ r).heap.size := fun k hk => hr1.lt k hk
  have hso : ∀ k, s.ownBlock = some k → (W1.setCell ⟨g, i * 8 + 2, none⟩ r).heap.size ≤ k := fun k hk => (hs.lt k hk).1
  have old : ∀ k (hk : k < ys.length) (hl : k < L.length), k < i → ∀ q, ys[k].2.2.1.ownBlock = some q ∨ ys[k].2.2.2.ownBlock = some q → q < W.heap.size := fun k hk hl hki q hq => by
    have := h3 k hk hl (Nat.zero_le _) hki
    rcases hq with hq | hq
    · exact (this.1.lt q hq).2
    · exact (this.2.1.lt q hq).2
  refine ⟨by simpa using o4, by simpa using h2, fun k k1 k2 _ k4 => ?_, fun k k' k1 k2 kL _ k4 _ k6 k7 => ?_, fun k k1 k2 k3 => ?_, fun k k1 _ k2 => ?_, fun k k1 k2 => ?_⟩
  · have k1' : k < ys.length := by simpa using k1
    rw [List.getElem_set]
    by_cases e : i = k
    · subst e
      rw [if_pos rfl]
      exact ⟨hr4.lower hN, hs4.lower (Nat.le_trans hN hsz1), fun q q1 q2 => by have := (hro q q1).2; have := hso q q2; omega⟩
    · rw [if_neg e]
      have := h3 k k1' k2 (Nat.zero_le _) (by omega)
      exact ⟨this.1.mv m4 (nb h1 this.1.row), this.2.1.mv m4 (nb h1 this.2.1.row), this.2.2⟩
  · have k1' : k < ys.length := by simpa using k1
    have k2' : k' < ys.length := by simpa using k2
    rw [List.getElem_set, List.getElem_set, if_neg (by omega)]
    by_cases e : i = k'
    · subst e
      rw [if_pos rfl]
      have ol := old k k1' (by omega) k7
      refine ⟨⟨fun q q1 q2 => ?_, fun q q1 q2 => ?_⟩, fun q q1 q2 => ?_, fun q q1 q2 => ?_⟩
      · have := ol q (.inl q1); have := (hro q q2).1; omega
      · have := ol q (.inl q1); have := hso q q2; omega
      · have := ol q (.inr q1); have := (hro q q2).1; omega
      · have := ol q (.inr q1); have := hso q q2; omega
    · rw [if_neg e]
      exact h4 k k' k1' k2' kL (Nat.zero_le _) (by omega) (Nat.zero_le _) (by omega) k7
  · have k1' : k < ys.length := by simpa using k1
    rw [List.getElem_set, if_neg (by omega)]
    have := h5 k k1' k2 (by omega)
    exact ⟨m4.own this.1 (nb h1 this.1), m4.own this.2.1 (nb h1 this.2.1), this.2.2⟩
  · have k1' : k < ys.length := by simpa using k1
    rw [List.getElem_set]
    by_cases e : i = k
    · subst e
      rw [if_pos rfl, ← hyi]
      exact h6 i hiy (Nat.zero_le _) k2
    · rw [if_neg e]
      exact h6 k k1' (Nat.zero_le _) k2
  · have k1' : k < ys.length := by simpa using k1
    rw [List.getElem_set, if_neg (by omega)]
    exact h7 k k1' k2
/-- One that counts for nothing is put behind. -/
theorem Gb.push {W W' : World} {N : Nat} {v v' : Value} {ys : List Yc} {L : List Sy} {b : Nat} {a : Option Addr} {c : Nat} (h : Gb W N v ys L 0 b) (hg : W.grownBy W' v.ownBlock) (ho : W'.ownsRow N 56 8 v' (ys.length + 1) (yc ys ++ y8 (.slice none 0 0, .slice none 0 0, .slice none 0 0, .slice a 3 c))) : Gb W' N v' (ys ++ [(.slice none 0 0, .slice none 0 0, .slice none 0 0, .slice a 3 c)]) L 0 b := by
  obtain ⟨h1, h2, h3, h4, h5, h6, h7⟩ := h
  have mv : Mv W W' (fun q => v.ownBlock = some q) := (Mv.refl W _).grown hg (fun q _ e => e)
  have nb : ∀ {x : Value} {lx : List Int}, Rw W N x lx → ∀ k, x.ownBlock = some k → ¬ v.ownBlock = some k := fun hx k hk e => own_apart h1 hx (by decide) k e hk
  have gl : ∀ k (hk : k < L.length) (hk2 : k < (ys ++ [(Value.slice none 0 0, Value.slice none 0 0, Value.slice none 0 0, Value.slice a 3 c)]).length), (ys ++ [(Value.slice none 0 0, Value.slice none 0 0, Value.slice none 0 0, Value.slice a 3 c)])[k] = ys[k]'(by omega) := fun k hk hk2 => List.getElem_append_left (by omega)
  refine ⟨?_, by simp; omega, fun k k1 k2 k3 k4 => ?_, fun k k' k1 k2 kL k3 k4 k5 k6 k7 => ?_, fun k k1 k2 k3 => ?_, fun k k1 _ k2 => ?_, fun k k1 k2 => ?_⟩
  · have : yc (ys ++ [(Value.slice none 0 0, Value.slice none 0 0, Value.slice none 0 0, Value.slice a 3 c)]) = yc ys ++ y8 (.slice none 0 0, .slice none 0 0, .slice none 0 0, .slice a 3 c) := by rw [yc_append]; simp [yc]
    rw [this, List.length_append, List.length_singleton]
    exact ho
  · rw [gl k k2 k1]
    have := h3 k (by omega) k2 k3 k4
    exact ⟨this.1.mv mv (nb this.1.row), this.2.1.mv mv (nb this.2.1.row), this.2.2⟩
  · rw [gl k (by omega) k1, gl k' kL k2]
    exact h4 k k' (by omega) (by omega) kL k3 k4 k5 k6 k7
  · rw [gl k k2 k1]
    have := h5 k (by omega) k2 k3
    exact ⟨mv.own this.1 (nb this.1), mv.own this.2.1 (nb this.2.1), this.2.2⟩
  · rw [gl k k2 k1]
    exact h6 k (by omega) (Nat.zero_le _) k2
  · by_cases e : k < ys.length
    · rw [List.getElem_append_left e]
      exact h7 k e k2
    · have : k = ys.length := by simp at k1; omega
      subst this
      rw [List.getElem_append_right (Nat.le_refl _)]
      simp only [Nat.sub_self, List.getElem_cons_zero]
      exact ⟨a, c, rfl⟩
/-- What New is handed. -/
theorem Gb.ys {W : World} {N g c n : Nat} {ys : List Yc} {L : List Sy} (h : Gb W N (.slice (some ⟨g, 0, none⟩) n c) ys L 0 L.length) (hL : ∀ s ∈ L, (∀ x ∈ s.1, InI x) ∧ (∀ x ∈ s.2, InI x) ∧ s.1.length ≤ 1000 ∧ s.2.length ≤ 1000) : Ys W (.slice (some ⟨g, 0, none⟩) L.length c) (ys.take L.length) L := by
  obtain ⟨h1, h2, h3, h4, h5, h6, h7⟩ := h
  obtain ⟨ao, c', e0⟩ := own_len h1
  simp only [Value.slice.injEq] at e0
  obtain ⟨-, rfl, -⟩ := e0
  have hl : (ys.take L.length).length = L.length := by rw [List.length_take]; omega
  refine ⟨?_, hl, fun i k1 k2 => ?_, fun y hy => ?_⟩
  · have := own_prefix h1 (n := L.length) h2
    rw [yc_take] at this
    rw [hl]
    exact own_lower this (Nat.zero_le _)
  · rw [List.getElem_take]
    have := h3 i (by omega) k2 (Nat.zero_le _) k2
    exact ⟨own_lower this.1.row (Nat.zero_le _), own_lower this.2.1.row (Nat.zero_le _), hL _ (List.getElem_mem k2)⟩
  · obtain ⟨i, hi, rfl⟩ := List.getElem_of_mem hy
    rw [List.getElem_take]
    rw [hl] at hi
    obtain ⟨⟨a, c, e1⟩, a', c', e2⟩ := h6 i (by omega) (Nat.zero_le _) hi
    exact ⟨⟨a, 2, c, e1⟩, a', 1, c', e2⟩
theorem trs_ok {w : World} {v : Value} {l : List Sy} (h : Sa w v l) : ∀ s ∈ trs l, (∀ x ∈ s.1, InI x) ∧ (∀ x ∈ s.2, InI x) ∧ s.1.length ≤ 1000 ∧ s.2.length ≤ 1000 := fun s hs => by
  obtain ⟨t, ht, rfl⟩ := List.mem_map.1 hs
  have ht2 := List.mem_of_mem_take ht
  obtain ⟨i, hi, rfl⟩ := List.getElem_of_mem ht2
  obtain ⟨ao, c, vs, h1, h2, h3, h4, h5, h6⟩ := h
  have := h6 i (by omega) hi
  refine ⟨fun x hx => this.2.2.1 x (List.mem_of_mem_take hx), fun x hx => this.2.2.2 x (List.mem_of_mem_take hx), ?_, ?_⟩
  · simp only [tr, List.length_take]; omega
  · simp only [tr, List.length_take]; omega
theorem trs_len (l : List Sy) : (trs l).length = min 200 l.length := by simp [trs]
/-- The owner writes over what it lent: nothing else of it changes. -/
theorem Gb.mv {W W' : World} {N g c n : Nat} {ys ys' : List Yc} {L : List Sy} {i : Nat} {T : Nat → Prop} (h : Gb W N (.slice (some ⟨g, 0, none⟩) n c) ys L i L.length) (hi : i < L.length) (hm : Mv W W' T) (hT : ∀ (h1 : i < ys.length) q, T q → q = g ∨ ys[i].2.2.1.ownBlock = some q ∨ ys[i].2.2.2.ownBlock = some q) (ho : W'.ownsRow N 56 8 (.slice (some ⟨g, 0, none⟩) n c) ys'.length (yc ys')) (hl : ys'.length = ys.length) (hs : ∀ k (h1 : k < ys.length) (h2 : k < ys'.length), k ≠ i → ys'[k] = ys[k]) : Gb W' N (.slice (some ⟨g, 0, none⟩) n c) ys' L (i + 1) L.length := by
  obtain ⟨h1, h2, h3, h4, h5, h6, h7⟩ := h
  have hii : i < ys.length := by omega
  have nt : ∀ k (hk : k < ys.length) (hkL : k < L.length), i < k → ∀ q, (ys[k].2.2.1.ownBlock = some q ∨ ys[k].2.2.2.ownBlock = some q) → ¬ T q := fun k hk hkL hik q hq hTq => by
    have hL := h3 k hk hkL (by omega) hkL
    have hA := h4 i k hii hk hkL (Nat.le_refl _) hi (by omega) hkL hik
    rcases hT hii q hTq with e | e | e
    · subst e
      rcases hq with hq | hq
      · exact own_apart h1 hL.1.row (by decide) q rfl hq
      · exact own_apart h1 hL.2.1.row (by decide) q rfl hq
    · rcases hq with hq | hq
      · exact hA.1.1 q e hq
      · exact hA.1.2 q e hq
    · rcases hq with hq | hq
      · exact hA.2.1 q e hq
      · exact hA.2.2 q e hq
  refine ⟨ho, by omega, fun k k1 k2 k3 k4 => ?_, fun k k' k1 k2 kL k3 k4 k5 k6 k7 => ?_, fun k k1 k2 k3 => by omega, fun k k1 k0 k2 => ?_, fun k k1 k2 => ?_⟩
  · rw [hs k (by omega) k1 (by omega)]
    have := h3 k (by omega) k2 (by omega) k4
    exact ⟨this.1.mv hm (fun q hq => nt k (by omega) k2 (by omega) q (.inl hq)), this.2.1.mv hm (fun q hq => nt k (by omega) k2 (by omega) q (.inr hq)), this.2.2⟩
  · rw [hs k (by omega) k1 (by omega), hs k' (by omega) k2 (by omega)]
    exact h4 k k' (by omega) (by omega) kL (by omega) k4 (by omega) k6 k7
  · rw [hs k (by omega) k1 (by omega)]
    exact h6 k (by omega) (by omega) k2
  · rw [hs k (by omega) k1 (by omega)]
    exact h7 k (by omega) k2
end Go.Proofs.Ythgjdmomcpcolaa
