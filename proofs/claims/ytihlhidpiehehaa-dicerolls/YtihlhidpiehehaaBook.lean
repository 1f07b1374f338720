/-
  DiceRolls: the book of orders; still.
-/
import Derived.Test.YtihlhidpiehehaaSame
namespace Go.Proofs.Ytihlhidpiehehaa
open Go.RowKit
set_option maxRecDepth 100000
/-- A list of orders: lab: whose its block is; f i: whose the order i is. -/
def Hf (w : World) (own : Nat → Nat) (v : Value) (xs : List Value) (ρ : Nat → List Int) (lab : Nat) (f : Nat → Nat) : Prop :=
  w.ownsRow 0 45 1 v xs.length xs ∧ (∀ i (h : i < xs.length), Tr w xs[i] (ρ i)) ∧ (∀ k, v.ownBlock = some k → own k = lab) ∧ ∀ i (h : i < xs.length) k, xs[i].ownBlock = some k → own k = f i
section
variable {w w' : World} {own own' : Nat → Nat} {v : Value} {xs : List Value} {ρ : Nat → List Int} {lab : Nat} {f : Nat → Nat}
theorem Hf.frame {S : Nat → Prop} (h : Hf w own v xs ρ lab f) (hm : Mv w w' S) (hs : ∀ k, S k → own k ≠ lab ∧ ∀ i, i < xs.length → own k ≠ f i) : Hf w' own v xs ρ lab f := by
  obtain ⟨h1, h2, h3, h4⟩ := h
  exact ⟨hm.own h1 (fun k e e' => (hs k e').1 (h3 k e)), fun i hi => (h2 i hi).frame hm (fun k e e' => (hs k e').2 i hi (h4 i hi k e)), h3, h4⟩
theorem Hf.lt (h : Hf w own v xs ρ lab f) : ∀ k, v.ownBlock = some k → k < w.heap.size := fun k e => (h.1.lt k e).2
theorem Hf.relab (h : Hf w own v xs ρ lab f) (ho : ∀ k, k < w.heap.size → own k = lab ∨ (∃ i, i < xs.length ∧ own k = f i) → own' k = own k) : Hf w own' v xs ρ lab f := by
  obtain ⟨h1, h2, h3, h4⟩ := h
  refine ⟨h1, h2, fun k e => ?_, fun i hi k e => ?_⟩
  · rw [ho k (h1.lt k e).2 (.inl (h3 k e)), h3 k e]
  · rw [ho k ((h2 i hi).lt k e) (.inr ⟨i, hi, h4 i hi k e⟩), h4 i hi k e]
theorem Hf.at (h : Hf w own v xs ρ lab f) (i : Nat) (hi : i < xs.length) : ∃ (g c : Nat), v = .slice (some ⟨g, 0, none⟩) xs.length c ∧ xs.length ≤ c ∧ c ≤ 9223372036854775807 ∧ w.cell? ⟨g, i, none⟩ = some xs[i] ∧ Tr w xs[i] (ρ i) := by
  obtain ⟨h1, h2, h3, h4⟩ := h
  obtain ⟨g, c, e1, e2, e3⟩ := own_form h1 (by omega)
  refine ⟨g, c, e1, e2, e3, ?_, h2 i hi⟩
  rw [e1] at h1
  rw [h1.cellAt i (by omega), List.getElem?_eq_getElem hi]
/-- One order more. -/
theorem Hf.add {u v' : Value} {R : List Int} (h : Hf w own v xs ρ lab f) (ho : w'.ownsRow 0 45 1 v' (xs.length + 1) (xs ++ [u])) (hg : w.grownBy w' v.ownBlock) (hv : v'.ownBlock = v.ownBlock ∨ v'.ownBlock = some w.heap.size) (hu : Tr w u R) (hul : ∀ k, u.ownBlock = some k → own k = f xs.length) (hne : ∀ i, i ≤ xs.length → f i ≠ lab) :
    Hf w' (fun k => if v'.ownBlock = some k then lab else own k) v' (xs ++ [u]) (fun i => if i = xs.length then R else ρ i) lab f := by
  obtain ⟨h1, h2, h3, h4⟩ := h
  have keep : ∀ (x : Value) (Q : List Int) (i : Nat), i ≤ xs.length → Tr w x Q → (∀ k, x.ownBlock = some k → own k = f i) → Tr w' x Q := fun x Q i hi ht hx =>
    ht.frame (S := fun k => v.ownBlock = some k) (⟨hg.1, hg.2, hg.3, hg.size, fun k hk e => hg.block k hk (fun e' => e e'.symm)⟩ : Mv w w' _) (fun k e e' => hne i hi ((hx k e).symm.trans (h3 k e')))
  refine ⟨by simpa using ho, fun i hi => ?_, fun k e => ?_, fun i hi k e => ?_⟩
  · dsimp only
    by_cases c : i < xs.length
    · rw [List.getElem_append_left c, if_neg (by omega)]
      exact keep _ _ i (by omega) (h2 i c) (h4 i c)
    · have hi' : i = xs.length := by simp at hi; omega
      subst hi'
      rw [if_pos rfl, List.getElem_append_right (Nat.le_refl _)]
      simpa using keep u R _ (Nat.le_refl _) hu hul
  · exact if_pos e
  · dsimp only
    have off : ∀ (x : Value) (Q : List Int) (j : Nat), j ≤ xs.length → Tr w x Q → (∀ k, x.ownBlock = some k → own k = f j) → ∀ k, x.ownBlock = some k → ¬ v'.ownBlock = some k := fun x Q j hj ht hx k e1 e2 => by
      rcases hv with hv | hv
      · rw [hv] at e2
        exact hne j hj ((hx k e1).symm.trans (h3 k e2))
      · rw [hv] at e2
        have := ht.lt k e1
        simp only [Option.some.injEq] at e2
        omega
    by_cases c : i < xs.length
    · rw [List.getElem_append_left c] at e
      rw [if_neg (off _ _ i (by omega) (h2 i c) (h4 i c) k e)]
      exact h4 i c k e
    · have hi' : i = xs.length := by simp at hi; omega
      subst hi'
      rw [List.getElem_append_right (Nat.le_refl _)] at e
      have e2 : u.ownBlock = some k := by simpa using e
      rw [if_neg (off _ _ _ (Nat.le_refl _) hu hul k e2)]
      exact hul k e2
end
/-- The book: whose each block is: 1 its own, 2 and 3 its two lists, 4 what must be, 10 + i the order i. -/
def Bk (w : World) (B : Nat) (own : Nat → Nat) (kb : Nat) (vl vw : Value) (ls ms : List Value) (ρ : Nat → List Int) : Prop :=
  w.heap[kb]? = some (.cells #[vl, vw] 36 (0, 0)) ∧ Hf w own vl ls ρ 2 (fun i => 10 + i) ∧ Hf w own vw ms ρ 3 (fun _ => 4) ∧ ms.length = ls.length ∧ own kb = 1 ∧ (∀ k, own k ≠ 0 → B ≤ k ∧ k < w.heap.size) ∧ ls.length ≤ 40 ∧ ∀ i, (ρ i).length ≤ 1000
section
variable {w w' : World} {B : Nat} {own own' : Nat → Nat} {kb : Nat} {vl vw : Value} {ls ms : List Value} {ρ : Nat → List Int}
theorem Bk.frame {S : Nat → Prop} (h : Bk w B own kb vl vw ls ms ρ) (hm : Mv w w' S) (hs : ∀ k, S k → own k = 0) : Bk w' B own kb vl vw ls ms ρ := by
  obtain ⟨h1, h2, h3, h4, h5, h6, h7⟩ := h
  exact ⟨hm.at h1 (fun e => by have := hs kb e; omega), h2.frame hm (fun k e => by have := hs k e; exact ⟨by omega, fun i _ => by omega⟩), h3.frame hm (fun k e => by have := hs k e; exact ⟨by omega, fun i _ => by omega⟩), h4, h5, fun k e => ⟨(h6 k e).1, Nat.lt_of_lt_of_le (h6 k e).2 hm.size⟩, h7⟩
theorem Bk.later (h : Bk w B own kb vl vw ls ms ρ) (hb : Below w.heap.size w w') : Bk w' B own kb vl vw ls ms ρ := h.frame (Mv.of_below hb (fun _ => False)) (fun _ e => e.elim)
theorem Bk.cells (h : Bk w B own kb vl vw ls ms ρ) : w.cell? ⟨kb, 0, none⟩ = some vl ∧ w.cell? ⟨kb, 1, none⟩ = some vw := by
  refine ⟨?_, ?_⟩ <;> rw [cell_of_row w kb _ _ 36 (0, 0) h.1] <;> rfl
theorem Bk.at (h : Bk w B own kb vl vw ls ms ρ) (i : Nat) (hl : i < ls.length) : ∃ (hm : i < ms.length) (g gm c cm : Nat), vl = .slice (some ⟨g, 0, none⟩) ls.length c ∧ vw = .slice (some ⟨gm, 0, none⟩) ms.length cm ∧ ls.length ≤ c ∧ c ≤ 9223372036854775807 ∧ ms.length ≤ cm ∧ cm ≤ 9223372036854775807 ∧ w.cell? ⟨g, i, none⟩ = some ls[i] ∧ w.cell? ⟨gm, i, none⟩ = some ms[i] ∧ Tr w ls[i] (ρ i) ∧ Tr w ms[i] (ρ i) := by
  have hm : i < ms.length := by rw [h.2.2.2.1]; exact hl
  obtain ⟨g, c, e1, e2, e3, e4, e5⟩ := h.2.1.at i hl
  obtain ⟨gm, cm, f1, f2, f3, f4, f5⟩ := h.2.2.1.at i hm
  exact ⟨hm, g, gm, c, cm, e1, f1, e2, e3, f2, f3, e4, f4, e5, f5⟩
end
def Bo (w : World) (B : Nat) (own : Nat → Nat) (kb : Nat) : Prop := ∃ vl vw ls ms ρ, Bk w B own kb vl vw ls ms ρ
set_option maxHeartbeats 2000000 in
theorem still_any {w : World} {B : Nat} {own : Nat → Nat} {kb : Nat} (h : Bo w B own kb) : Calls Try.prog 13 #[.pointer (some ⟨kb, 0, none⟩)] w fun e w' => e = .returned (.bool true) ∧ Below w.heap.size w w' := by
  obtain ⟨vl, vw, ls, ms, ρ, hk⟩ := h
  obtain ⟨al, cl, hvl⟩ := own_len hk.2.1.1
  have HK := hide hk
  have JS := hide (fun (W : World) (va vb : Value) (R : List Int) (h1 : Tr W va R) (h2 : Tr W vb R) h3 => same_any h1 h2 h3)
  have h40 : ls.length ≤ 40 := hk.2.2.2.2.2.2.1
  obtain ⟨n, hn⟩ : ∃ n, n = ls.length := ⟨_, rfl⟩
  have HV := hide (And.intro hvl hn)
  rw [← hn] at h40
  have HC0 : Hid (∀ W, Below w.heap.size w W → W.cell? ⟨kb, 0, none⟩ = some (.slice al n cl) ∧ W.cell? ⟨kb, 1, none⟩ = some vw) := fun W hb => by
    have := (hk.later hb).cells
    rw [hvl, ← hn] at this
    exact this
  clear hk hvl hn
  go_enter Try.func13, Try.ntmps13
  go_wp2_with fail
  go_loopg [3] n (fun k v3 wr => ∃ i : Nat, k = n - i ∧ i ≤ n ∧ v3 = .int .i64 (i : Int) ∧ Hid (Below w.heap.size w wr))
  case atStart => exact ⟨0, rfl, by omega, rfl, Below.refl _ _⟩
  case round =>
    obtain ⟨i, hk, hi, rfl, HW⟩ := hrel
    obtain ⟨c0, c1⟩ := HC0.out wr HW.out
    by_cases hlt : i < n
    · have hlt' : (i : Int) < (n : Int) := by omega
      have hl : i < ls.length := by have := HV.out.2; omega
      obtain ⟨hm, g, gm, c, cm, e1, e2, e3, e4, e5, e6, x0, x1, t0, t1⟩ := (HK.out.later HW.out).at i hl
      obtain ⟨rfl, rfl, rfl⟩ : al = some ⟨g, 0, none⟩ ∧ n = ls.length ∧ cl = c := by
        have := HV.out.1.symm.trans e1
        simp only [Value.slice.injEq] at this
        exact ⟨this.1, HV.out.2, this.2.2⟩
      have hml : ms.length = ls.length := HK.out.2.2.2.1
      have hR : (ρ i).length ≤ 1000 := HK.out.2.2.2.2.2.2.2 i
      have J := hide (fun (W : World) (hb : Below wr.heap.size wr W) => JS.out W _ _ _ (t0.later hb) (t1.later hb) hR)
      subst e2
      rw [hml] at c1 e5
      clear e1 e3 t0 t1 hR hml
      generalize ls[i] = u at *
      generalize ms[i] = u2 at *
      generalize ls.length = n at *
      have HS : Hid (∀ W, Below wr.heap.size wr W → W.cell? ⟨kb, 0, none⟩ = some (.slice (some ⟨g, 0, none⟩) n cl) ∧ W.cell? ⟨kb, 1, none⟩ = some (.slice (some ⟨gm, 0, none⟩) n cm) ∧ W.cell? ⟨g, i, none⟩ = some u ∧ W.cell? ⟨gm, i, none⟩ = some u2) := fun W hb =>
        ⟨(hb.cell (p := ⟨kb, 0, none⟩) (World.block_lt_of_cell? _ _ c0)).trans c0, (hb.cell (p := ⟨kb, 1, none⟩) (World.block_lt_of_cell? _ _ c1)).trans c1, (hb.cell (p := ⟨g, i, none⟩) (World.block_lt_of_cell? _ _ x0)).trans x0, (hb.cell (p := ⟨gm, i, none⟩) (World.block_lt_of_cell? _ _ x1)).trans x1⟩
      go_upto_region 4 with fail
      go_region_held3 (fun W => W.cell? ⟨kb, 0, none⟩ = some (.slice (some ⟨g, 0, none⟩) n cl) ∧ W.cell? ⟨kb, 1, none⟩ = some (.slice (some ⟨gm, 0, none⟩) n cm) ∧ W.cell? ⟨g, i, none⟩ = some u ∧ W.cell? ⟨gm, i, none⟩ = some u2) (go_keep) (first | (go_at_call 23; refine (J.out _ (below_drew wr)).mono ?_; rintro e w5 ⟨rfl, hb5⟩; obtain ⟨y0, y1, y2, y3⟩ := HS.out _ (below_on (below_drew wr) hb5)))
      have HB5 := hide (below_on HW.out (below_on (below_drew wr) hb5))
      clear hb5
      go_wp2_with fail
      go_roundg (n - (i + 1))
      case measure => omega
      case rel => exact ⟨i + 1, rfl, hlt, by simp, HB5⟩
    · obtain rfl : n = i := by omega
      go_wp2_with fail
      go_ret
      exact ⟨rfl, HW.out⟩
end Go.Proofs.Ytihlhidpiehehaa
