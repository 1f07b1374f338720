/-
  Plan: systems and stages in memory.
-/
import Derived.Test.YthgjdmomcpcolaaMe
namespace Go.Proofs.Ythgjdmomcpcolaa
open Go.RowKit
/-! ### Plain -/
theorem mks_pre (l m : List Sy) : ∃ t, mks (l ++ m) = mks l ++ t := by
  induction m using snoc_ind with
  | h0 => exact ⟨[], by simp⟩
  | h1 m x ih =>
    obtain ⟨t, ht⟩ := ih
    exact ⟨t ++ [(x, grt (mks (l ++ m)) x + 1)], by rw [← List.append_assoc, mks_add, ht, List.append_assoc]⟩
theorem sg_pre (l m : List Sy) (i : Nat) (h : i < l.length) : sg (l ++ m) i = sg l i := by
  obtain ⟨t, ht⟩ := mks_pre l m
  simp only [sg, stL, ht, List.map_append]
  rw [List.getD_eq_getElem?_getD, List.getD_eq_getElem?_getD, List.getElem?_append_left (by simp [mks_len, h])]
theorem sg_take (l : List Sy) (i : Nat) (h : i < l.length) : sg l i = grt (mks (l.take i)) l[i] := by
  have hl : (l.take i).length = i := by rw [List.length_take]; omega
  have e : sg (l.take (i + 1) ++ l.drop (i + 1)) i = sg (l.take (i + 1)) i := sg_pre _ _ _ (by rw [List.length_take]; omega)
  rw [List.take_append_drop] at e
  have e2 := sg_last (l.take i) l[i]
  rw [hl, ← List.take_succ_eq_append_getElem h] at e2
  rw [e, e2]
theorem sg_le (l : List Sy) : ∀ x, x < l.length → sg l x ≤ x := fun x => by
  induction x using Nat.strongRecOn with
  | _ x ih =>
    intro hx
    rcases sg_why l x hx with h | ⟨k, h1, _, h3⟩
    · omega
    · have := ih k h1 (by omega)
      omega
theorem mks_le (l : List Sy) : ∀ x ∈ mks l, x.2 ≤ l.length := fun x hx => by
  obtain ⟨i, hi, rfl⟩ := mks_mem hx
  dsimp only
  rw [← sg_at l i hi]
  have := sg_le l i hi
  omega
theorem mks_take (l : List Sy) (i : Nat) (h : i < l.length) : mks (l.take (i + 1)) = mks (l.take i) ++ [(l[i], sg l i + 1)] := by
  rw [List.take_succ_eq_append_getElem h, mks_add, sg_take l i h]
/-! ### Systems in memory -/
def pc : List (Value × Value) → List Value
  | [] => []
  | p :: t => p.1 :: p.2 :: pc t
theorem pc_len : ∀ l : List (Value × Value), (pc l).length = l.length * 2
  | [] => rfl
  | p :: t => by simp [pc, pc_len t]; omega
theorem pc_at : ∀ (l : List (Value × Value)) (i : Nat) (h : i < l.length), (pc l)[i * 2]? = some l[i].1 ∧ (pc l)[i * 2 + 1]? = some l[i].2
  | p :: t, 0, _ => ⟨rfl, rfl⟩
  | p :: t, i + 1, h => by
    have := pc_at t i (by simpa using h)
    rw [show (i + 1) * 2 = i * 2 + 1 + 1 by omega]
    simpa [pc] using this
theorem pc_set : ∀ (l : List (Value × Value)) (i : Nat) (a b : Value), i < l.length → ((pc l).set (i * 2) a).set (i * 2 + 1) b = pc (l.set i (a, b))
  | p :: t, 0, a, b, _ => rfl
  | p :: t, i + 1, a, b, h => by
    have := pc_set t i a b (by simpa using h)
    rw [show (i + 1) * 2 = i * 2 + 1 + 1 by omega]
    simpa [pc] using this
def As (w : World) (B : Nat) (v : Value) (vs : List (Value × Value)) (l : List Sy) : Prop :=
  w.ownsRow B 74 2 v vs.length (pc vs) ∧ vs.length = l.length ∧ ∀ i (h1 : i < vs.length) (h2 : i < l.length), Ac w B vs[i].1 vs[i].2 l[i]
theorem As.later {w w' : World} {B : Nat} {v : Value} {vs : List (Value × Value)} {l : List Sy} (h : As w B v vs l) (hb : Below w.heap.size w w') : As w' B v vs l :=
  ⟨own_later h.1 hb, h.2.1, fun i h1 h2 => (h.2.2 i h1 h2).later hb⟩
theorem As.at {w : World} {B g c n : Nat} {vs : List (Value × Value)} {l : List Sy} (h : As w B (.slice (some ⟨g, 0, none⟩) n c) vs l) (i : Nat) (hi : i < vs.length) : w.cell? ⟨g, i * 2, none⟩ = some vs[i].1 ∧ w.cell? ⟨g, i * 2 + 1, none⟩ = some vs[i].2 := by
  obtain ⟨ao, c', e⟩ := own_len h.1
  simp only [Value.slice.injEq] at e
  obtain ⟨rfl, rfl, rfl⟩ := e
  have := pc_at vs i hi
  rw [h.1.cellAt (i * 2) (by omega), h.1.cellAt (i * 2 + 1) (by omega)]
  exact this
/-! ### Stages in memory -/
theorem own_block {w : World} {B e s n : Nat} {v : Value} {xs : List Value} (h : w.ownsRow B e s v n xs) {g : Nat} (hg : v.ownBlock = some g) : ∃ cur, w.heap[g]? = some (.cells cur e (0, 0)) := by
  rcases h.2 with ⟨rfl, _⟩ | ⟨g', cap, cur, rfl, hb, hg', -⟩
  · simp [Value.ownBlock] at hg
  · simp only [Value.ownBlock, Option.some.injEq] at hg
    subst hg
    exact ⟨cur, hg'⟩
theorem own_apart {w : World} {B e s n B' e' s' n' : Nat} {v v' : Value} {xs xs' : List Value} (h : w.ownsRow B e s v n xs) (h' : w.ownsRow B' e' s' v' n' xs') (hne : e ≠ e') : Ap v v' := fun g h1 h2 => by
  obtain ⟨c1, k1⟩ := own_block h h1
  obtain ⟨c2, k2⟩ := own_block h' h2
  rw [k1] at k2
  simp only [Option.some.injEq, Obj.cells.injEq] at k2
  exact hne k2.2.1
def Ss (W : World) (B : Nat) (v : Value) (rs : List Value) (sts : List (List Nat)) : Prop :=
  W.ownsRow B 23 1 v rs.length rs ∧ rs.length = sts.length ∧ (∀ j (hj : j < rs.length) (hj2 : j < sts.length), Rw W B rs[j] (up sts[j])) ∧ ∀ i j (hi : i < rs.length) (hj : j < rs.length), i ≠ j → Ap rs[i] rs[j]
section
variable {w W W' : World} {B : Nat} {v : Value} {rs : List Value} {sts : List (List Nat)}
theorem Ss.nil (W : World) (B : Nat) : Ss W B (.slice none 0 0) [] [] := ⟨⟨rfl, .inl ⟨rfl, rfl⟩⟩, rfl, fun j hj => by simp at hj, fun i j hi => by simp at hi⟩
theorem Ss.frame {T : Nat → Prop} (h : Ss W B v rs sts) (hm : Mv W W' T) (h1 : ∀ k, v.ownBlock = some k → ¬ T k) (h2 : ∀ r ∈ rs, ∀ k, r.ownBlock = some k → ¬ T k) : Ss W' B v rs sts :=
  ⟨hm.own h.1 h1, h.2.1, fun j hj hj2 => hm.own (h.2.2.1 j hj hj2) (h2 _ (List.getElem_mem hj)), h.2.2.2⟩
theorem Ss.later (h : Ss W B v rs sts) (hb : Below W.heap.size W W') : Ss W' B v rs sts := h.frame (Mv.of_below hb (fun _ => False)) (fun _ _ e => e) (fun _ _ _ _ e => e)
theorem Ss.maps (h : Ss W B v rs sts) {g1 g2 n : Nat} {ms : Mk} (hM : Mm W g1 g2 n ms) (hm : Mv W W' (fun k => k = g1 ∨ k = g2)) : Ss W' B v rs sts :=
  h.frame hm (fun k hk e => e.elim (own_nomap h.1 hM.2.1 k hk) (own_nomap h.1 hM.2.2 k hk)) (fun r hr k hk e => by
    obtain ⟨j, hj, rfl⟩ := List.getElem_of_mem hr
    have := h.2.2.1 j hj (by rw [← h.2.1]; exact hj)
    exact e.elim (own_nomap this hM.2.1 k hk) (own_nomap this hM.2.2 k hk))
theorem Ss.lt (h : Ss W B v rs sts) : (∀ k, v.ownBlock = some k → k < W.heap.size) ∧ ∀ r ∈ rs, ∀ k, r.ownBlock = some k → k < W.heap.size := by
  refine ⟨fun k hk => (h.1.lt k hk).2, fun r hr k hk => ?_⟩
  obtain ⟨j, hj, rfl⟩ := List.getElem_of_mem hr
  exact ((h.2.2.1 j hj (by rw [← h.2.1]; exact hj)).lt k hk).2
/-- A stage of none is put behind. -/
theorem Ss.push {v' : Value} (h : Ss W B v rs sts) (hg : W.grownBy W' v.ownBlock) (ho : W'.ownsRow B 23 1 v' (rs.length + 1) (rs ++ [.slice none 0 0])) : Ss W' B v' (rs ++ [.slice none 0 0]) (sts ++ [[]]) := by
  refine ⟨by simpa using ho, by simp [h.2.1], fun j hj hj2 => ?_, fun i j hi hj hij => ?_⟩
  · by_cases c : j < rs.length
    · rw [List.getElem_append_left c, List.getElem_append_left (by rw [← h.2.1]; exact c)]
      have hr := h.2.2.1 j c (by rw [← h.2.1]; exact c)
      refine own_kept hr hg (fun k hk e => ?_)
      exact own_apart h.1 hr (by decide) k e hk
    · have hjl : j = rs.length := by simp at hj; omega
      subst hjl
      rw [List.getElem_append_right (Nat.le_refl _), List.getElem_append_right (by rw [h.2.1]; omega)]
      simp only [h.2.1, Nat.sub_self, List.getElem_cons_zero]
      exact Rw.nil _ _
  · intro g h1 h2
    by_cases ci : i < rs.length
    · by_cases cj : j < rs.length
      · rw [List.getElem_append_left ci] at h1
        rw [List.getElem_append_left cj] at h2
        exact h.2.2.2 i j ci cj hij g h1 h2
      · rw [List.getElem_append_right (by omega)] at h2
        have : j - rs.length = 0 := by simp at hj; omega
        simp [this, Value.ownBlock] at h2
    · rw [List.getElem_append_right (by omega)] at h1
      have : i - rs.length = 0 := by simp at hi; omega
      simp [this, Value.ownBlock] at h1
/-- One of the stages is put in anew. -/
theorem Ss.put {g c : Nat} {W1 : World} (h : Ss W B (.slice (some ⟨g, 0, none⟩) rs.length c) rs sts) (j : Nat) (hj : j < rs.length) (r' : Value) (st : List Nat) (hg : W.grownBy W1 (rs[j]).ownBlock) (ho : Rw W1 B r' (up st)) (hn : r'.ownBlock = (rs[j]).ownBlock ∨ ∃ q, r'.ownBlock = some q ∧ W.heap.size ≤ q) :
    Ss (W1.setCell ⟨g, j, none⟩ r') B (.slice (some ⟨g, 0, none⟩) rs.length c) (rs.set j r') (sts.set j st) := by
  have hlt := h.lt
  have hr := h.2.2.1 j hj (by rw [← h.2.1]; exact hj)
  have ho1 : W1.ownsRow B 23 1 (.slice (some ⟨g, 0, none⟩) rs.length c) rs.length rs := own_kept h.1 hg (fun k hk e => own_apart h.1 hr (by decide) k hk e)
  have hgt : ∀ {x : Value} {l : List Int}, Rw W1 B x l → x.ownBlock ≠ some g := fun hx e => by
    have := own_apart ho1 hx (by decide)
    exact this g rfl e
  have hs := (ho1.stored j r').1
  have hap : ∀ i (hi : i < rs.length), i ≠ j → Ap rs[i] r' := fun i hi hij q h1 h2 => by
    rcases hn with hn | ⟨q', hn, hq⟩
    · rw [hn] at h2
      exact h.2.2.2 i j hi hj hij q h1 h2
    · rw [hn] at h2
      cases h2
      have := hlt.2 _ (List.getElem_mem hi) q h1
      omega
  refine ⟨by simpa using hs, by simp [h.2.1], fun i hi hi2 => ?_, fun i k hi hk hik => ?_⟩
  · rw [List.getElem_set, List.getElem_set]
    by_cases e : j = i
    · rw [if_pos e, if_pos e]
      exact own_set ho (hgt ho)
    · rw [if_neg e, if_neg e]
      have hi' : i < rs.length := by simpa using hi
      have hi3 : i < sts.length := by simpa using hi2
      have h3 := h.2.2.1 i hi' hi3
      have h4 : Rw W1 B rs[i] (up sts[i]) := own_kept h3 hg (fun q hq e' => h.2.2.2 i j hi' hj (fun x => e x.symm) q hq e')
      exact own_set h4 (hgt h4)
  · have hi' : i < rs.length := by simpa using hi
    have hk' : k < rs.length := by simpa using hk
    rw [List.getElem_set, List.getElem_set]
    by_cases e1 : j = i
    · rw [if_pos e1, if_neg (by omega)]
      exact (hap k hk' (by omega)).symm
    · rw [if_neg e1]
      by_cases e2 : j = k
      · rw [if_pos e2]
        exact hap i hi' (by omega)
      · rw [if_neg e2]
        exact h.2.2.2 i k hi' hk' hik
end
theorem info23 : (Try.prog.info? 23).map (fun i => (i.zero, i.size, i.bytes)) = some (some (.slice none 0 0), 1, 24) := by kernel_rfl
theorem up_add (a : List Nat) (n : Nat) : up (a ++ [n]) = up a ++ [(n : Int)] := by simp [up]
theorem up_len (a : List Nat) : (up a).length = a.length := by simp [up]
end Go.Proofs.Ythgjdmomcpcolaa
