/-
  What came in, and the pools as they are made.
-/
import Derived.Test.YtejbdhbphbgckaaBoth
import Derived.Test.YtejbdhbphbgckaaShown
namespace Go.Proofs.Ytejbdhbphbgckaa
open Go.RowKit
/-- A script's step, as it lies. -/
def Op1 (w : World) (g o : Nat) : Prop := ∃ (kd nn a ei eg : Int) (ag af : Option Addr) (ng cg nf cf : Nat) (GL FL : List Int), (w.cell? ⟨g, o, none⟩ = some (.int .i64 kd) ∧ w.cell? ⟨g, o + 1, none⟩ = some (.int .i64 nn) ∧ w.cell? ⟨g, o + 2, none⟩ = some (.int .i64 a) ∧ w.cell? ⟨g, o + 3, none⟩ = some (.int .i64 ei) ∧ w.cell? ⟨g, o + 4, none⟩ = some (.int .i64 eg) ∧ w.cell? ⟨g, o + 5, none⟩ = some (.slice ag ng cg) ∧ w.cell? ⟨g, o + 6, none⟩ = some (.slice af nf cf)) ∧ (-9223372036854775808 ≤ nn ∧ nn ≤ 9223372036854775807) ∧ (-9223372036854775808 ≤ a ∧ a ≤ 9223372036854775807) ∧ Is w (.slice ag ng cg) GL ∧ Is w (.slice af nf cf) FL ∧ GL.length ≤ 1000000000 ∧ FL.length ≤ 1000000000
theorem Op1.on {w w' : World} {g o : Nat} (h : Op1 w g o) (hb : Below w.heap.size w w') : Op1 w' g o := by
  obtain ⟨kd, nn, a, ei, eg, ag, af, ng, cg, nf, cf, GL, FL, ⟨c0, c1, c2, c3, c4, c5, c6⟩, h1, h2, h3, h4, h5⟩ := h
  have up : ∀ {q : Addr} {x : Value}, w.cell? q = some x → w'.cell? q = some x := fun {q x} hc => (hb.cell (p := q) (World.block_lt_of_cell? w _ hc)).trans hc
  exact ⟨kd, nn, a, ei, eg, ag, af, ng, cg, nf, cf, GL, FL, ⟨up c0, up c1, up c2, up c3, up c4, up c5, up c6⟩, h1, h2, h3.on hb, h4.on hb, h5⟩
/-- A script that came in. -/
def Sc (w : World) (v : Value) (n : Nat) : Prop :=
  ∃ ao c, v = .slice ao n c ∧ n ≤ c ∧ c ≤ maxLen ∧ ∀ i, i < n → ∃ g o, ao = some ⟨g, o, none⟩ ∧ Op1 w g (o + i * 7)
def nilp : Value := .pointer none
/-- The law's world while its pools are made: i of them are there. -/
def Pq (W : World) (B gw i : Nat) : Prop :=
  ∃ (own : Nat → Nat) (G : Nat → Nat × Nat) (C : Nat → St) (x : Four), Fe own B W ∧ own gw = 4 ∧ W.heap[gw]? = some (.cells #[x.1, x.2.1, x.2.2.1, x.2.2.2, .slice none 0 0] 32 (0, 0)) ∧
    (∀ j, j < i → PlS W (Lb own W (2 * j)) (G j).1 (C j)) ∧ (∀ j, j < i → DlS W (Lb own W (2 * j + 1)) (G j).2 (C j)) ∧ (0 < i → x.1 = ptr (G 0).1 ∧ x.2.1 = ptr (G 0).2) ∧ (1 < i → x.2.2.1 = ptr (G 1).1 ∧ x.2.2.2 = ptr (G 1).2)
section
variable {W W' : World} {B gw i : Nat}
theorem Pq.later (h : Pq W B gw i) (hb : Below W.heap.size W W') : Pq W' B gw i := by
  obtain ⟨own, G, C, x, h1, h2, h3, h4, h5, h6⟩ := h
  have hgw := lt_of_block h3
  have up : ∀ j k, Lb own W j k → Lb (ext own W.heap.size 6) W' j k := fun j k e => ⟨Nat.lt_of_lt_of_le e.1 hb.size, by unfold ext; rw [if_pos e.1]; exact e.2⟩
  exact ⟨ext own W.heap.size 6, G, C, x, h1.ext hb.size 6, by unfold ext; rw [if_pos hgw]; exact h2, (hb.block gw hgw).trans h3, fun j hj => ((h4 j hj).later hb).mono (up _), fun j hj => ((h5 j hj).later hb).mono (up _), h6⟩
theorem Pq.done (h : Pq W B gw 2) : ∃ G C, Bu W gw B G C C [] := by
  obtain ⟨own, G, C, ⟨x0, x1, x2, x3⟩, h1, h2, h3, h4, h5, h6, h7⟩ := h
  obtain ⟨e0, e1⟩ := h6 (by omega)
  obtain ⟨e2, e3⟩ := h7 (by omega)
  simp only at e0 e1 e2 e3 h3
  subst e0 e1 e2 e3
  exact ⟨G, C, own, h1, h4, h5, .slice none 0 0, ⟨h3, ⟨rfl, .inl ⟨rfl, rfl⟩⟩, by simp [Value.ownBlock]⟩, ⟨lt_of_block h3, h2⟩, In.nil _, fun k e => ⟨e.1, e.ne (by decide)⟩, fun k e => e.1, fun y hy => by cases hy⟩
theorem Pq.place (h : Pq W B gw i) (hi : i < 2) {g r : Nat} {st : St} {T U : Nat → Prop} (hb : Below W.heap.size W W') (hp : PlS W' T g st) (hd : DlS W' U r st) (hT : ∀ k, T k → W.heap.size ≤ k) (hU : ∀ k, U k → W.heap.size ≤ k) (hTU : ∀ k, T k → ¬ U k) :
    Pq ((W'.setCell ⟨gw, i * 2, none⟩ (ptr g)).setCell ⟨gw, i * 2 + 1, none⟩ (ptr r)) B gw (i + 1) ∧ Below B W ((W'.setCell ⟨gw, i * 2, none⟩ (ptr g)).setCell ⟨gw, i * 2 + 1, none⟩ (ptr r)) := by
  classical
  obtain ⟨own, G, C, ⟨x0, x1, x2, x3⟩, hF, h2, h3, h4, h5, h6, h7⟩ := h
  have hgw := lt_of_block h3
  have hsz0 := hb.size
  obtain ⟨V, hV⟩ : ∃ V, V = (W'.setCell ⟨gw, i * 2, none⟩ (ptr g)).setCell ⟨gw, i * 2 + 1, none⟩ (ptr r) := ⟨_, rfl⟩
  have hm : Mv W' V (fun k => k = gw) := by rw [hV]; exact Mv.set (S := fun k => k = gw) (Mv.set (S := fun k => k = gw) (Mv.refl _ _) rfl _ _) rfl _ _
  have hsz := hm.size
  rw [← hV]
  obtain ⟨o', ho'⟩ : ∃ o' : Nat → Nat, o' = fun k => if k < W.heap.size then own k else if T k then 2 * i else if U k then 2 * i + 1 else 6 := ⟨_, rfl⟩
  have up : ∀ j k, Lb own W j k → Lb o' V j k := fun j k e => by
    refine ⟨Nat.lt_of_lt_of_le (Nat.lt_of_lt_of_le e.1 hsz0) hsz, ?_⟩
    rw [ho']
    simp only [if_pos e.1]
    exact e.2
  have ng : ∀ j k, j < 4 → Lb own W j k → ¬ k = gw := fun j k hj e e' => by
    have := e.2
    subst e'
    omega
  have hBg : B ≤ gw := hF.le (by omega)
  refine ⟨⟨o', upd G i (g, r), upd C i st, ?x, ⟨Nat.le_trans (Nat.le_trans hF.1 hsz0) hsz, fun k hk => ?_⟩, ?_, ?hrow, fun j hj => ?_, fun j hj => ?_, ?h6, ?h7⟩, (hb.mono hF.1).trans (hm.below (Nat.le_trans hF.1 hsz0) (fun k e => by omega))⟩
  case x => exact if i = 0 then (ptr g, ptr r, x2, x3) else (x0, x1, ptr g, ptr r)
  case hrow =>
    have a0 : W'.heap[gw]? = some (.cells #[x0, x1, x2, x3, .slice none 0 0] 32 (0, 0)) := (hb.block gw hgw).trans h3
    have a1 := heap_setCell_same W' gw (i * 2) _ 32 (ptr g) a0
    have a2 := heap_setCell_same _ gw (i * 2 + 1) _ 32 (ptr r) a1
    rw [hV, a2]
    match i, hi with
    | 0, _ => rfl
    | 1, _ => rfl
  case h6 =>
    intro _
    match i, hi, h6 with
    | 0, _, _ => exact ⟨rfl, rfl⟩
    | 1, _, h6 => exact h6 (by omega)
  case h7 =>
    intro h1
    match i, hi, h1 with
    | 0, _, h1 => omega
    | 1, _, _ => exact ⟨rfl, rfl⟩
  · have := hF.1
    rw [ho']
    simp only [if_pos (show k < W.heap.size by omega)]
    exact hF.2 k hk
  · rw [ho']
    simp only [if_pos hgw]
    exact h2
  · by_cases e : j = i
    · subst e
      rw [upd_at, upd_at]
      refine (Pl.tight (Pl.frame hp hm (fun k e e' => by have := hT k e; omega))).mono (fun k e => ⟨e.2, ?_⟩)
      have := hT k e.1
      rw [ho']
      simp only [if_neg (show ¬ k < W.heap.size by omega), if_pos e.1]
    · have := (((h4 j (by omega)).later hb).frame hm (fun k => ng _ k (by omega))).mono (up _)
      unfold upd
      rw [if_neg e, if_neg e]
      exact this
  · by_cases e : j = i
    · subst e
      rw [upd_at, upd_at]
      refine (Dl.tight (Dl.frame hd hm (fun k e e' => by have := hU k e; omega))).mono (fun k e => ⟨e.2, ?_⟩)
      have h1 := hU k e.1
      have h2 : ¬ T k := fun t => hTU k t e.1
      rw [ho']
      simp only [if_neg (show ¬ k < W.heap.size by omega), if_neg h2, if_pos e.1]
    · have := (((h5 j (by omega)).later hb).frame hm (fun k => ng _ k (by omega))).mono (up _)
      unfold upd
      rw [if_neg e, if_neg e]
      exact this
theorem Pq.cells (h : Pq W B gw i) (hi : i < 2) : ∃ v1 v2, W.cell? ⟨gw, i * 2, none⟩ = some v1 ∧ W.cell? ⟨gw, i * 2 + 1, none⟩ = some v2 ∧ (∀ k, W.frozen? ⟨gw, k, none⟩ = false) ∧ (∀ v k, (W.setCell ⟨gw, i * 2, none⟩ v).frozen? ⟨gw, k, none⟩ = false) ∧ ∀ v, (W.setCell ⟨gw, i * 2, none⟩ v).cell? ⟨gw, i * 2 + 1, none⟩ = some v2 := by
  obtain ⟨own, G, C, ⟨x0, x1, x2, x3⟩, hF, h2, h3, -⟩ := h
  have key : ∃ v1 v2, W.cell? ⟨gw, i * 2, none⟩ = some v1 ∧ W.cell? ⟨gw, i * 2 + 1, none⟩ = some v2 := by
    match i, hi with
    | 0, _ => exact ⟨x0, x1, by rw [cell_of_row W gw _ _ 32 (0, 0) h3]; rfl, by rw [cell_of_row W gw _ _ 32 (0, 0) h3]; rfl⟩
    | 1, _ => exact ⟨x2, x3, by rw [cell_of_row W gw _ _ 32 (0, 0) h3]; rfl, by rw [cell_of_row W gw _ _ 32 (0, 0) h3]; rfl⟩
  obtain ⟨v1, v2, k1, k2⟩ := key
  exact ⟨v1, v2, k1, k2, fun k => frozen_of_row W gw _ _ 32 h3, fun v k => frozen_of_row _ gw _ _ 32 (heap_setCell_same W gw (i * 2) _ 32 v h3), fun v => (World.cell?_setCell_other (w := W) (a := ⟨gw, i * 2, none⟩) (v := v) (b := ⟨gw, i * 2 + 1, none⟩) (by intro e; injection e with _ e; omega)).trans k2⟩
theorem Bu.looks {G : Nat → Nat × Nat} {C D : Nat → St} {L : List Held} (h : Bu W gw B G C D L) (hL : L.length ≤ 1000000) : Calls Try.prog 9 #[.pointer (some ⟨gw, 0, none⟩)] W fun e w' => e = .returned (.bool true) ∧ Below W.heap.size W w' := by
  obtain ⟨own, hF, -, -, vl, k1, -, -, -, -, k6⟩ := h
  exact looks_any gw 0 vl L W k1.cell k1.2.1 (fun i hi => ⟨(k6 _ (List.getElem_mem hi)).1, (k6 _ (List.getElem_mem hi)).2.1⟩) hL
end
end Go.Proofs.Ytejbdhbphbgckaa
