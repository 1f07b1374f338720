/-
  Buffer: what it holds.
-/
import Derived.Test.YtfbhoemfabgjpaaGreatXCln
namespace Go.Proofs.YtfbhoemfabgjpaaGreat
open Go.RowKit
set_option maxRecDepth 100000
def czL (l : List Cm) : List Value := l.flatMap cmL
theorem czL_len : ∀ l : List Cm, (czL l).length = l.length * 6
  | [] => rfl
  | c :: t => by
    have := czL_len t
    unfold czL at *
    rw [List.flatMap_cons, List.length_append, this, List.length_cons]
    show 6 + _ = _
    omega
theorem czL_push (l : List Cm) (c : Cm) : czL (l ++ [c]) = czL l ++ cmL c := by simp [czL]
theorem flat_upd (L : Int × Int → List Cm) (e : Int × Int) (c : Cm) : ∀ ss : List (Int × Int), ss.Nodup → (ss.flatMap (fun x => if x = e then L e ++ [c] else L x)).length ≤ (ss.flatMap L).length + (if e ∈ ss then 1 else 0)
  | [], _ => Nat.zero_le _
  | x :: t, hn => by
    have ih := flat_upd L e c t (List.nodup_cons.1 hn).2
    have hx := (List.nodup_cons.1 hn).1
    rw [List.flatMap_cons, List.flatMap_cons, List.length_append, List.length_append]
    by_cases ex : x = e
    · subst ex
      rw [if_pos rfl, List.length_append, if_pos List.mem_cons_self]
      rw [if_neg hx] at ih
      simp only [List.length_singleton]
      omega
    · rw [if_neg ex]
      by_cases et : e ∈ t
      · rw [if_pos et] at ih
        rw [if_pos (List.mem_cons_of_mem _ et)]
        omega
      · rw [if_neg et] at ih
        rw [if_neg (fun h => (List.mem_cons.1 h).elim (fun h => ex h.symm) et)]
        omega
section
variable {w w' : World} {S U P : Nat → Prop}
/-- A buffer: its block, its map, the lists of its turns (blocks of S), what its commands hold (blocks of U). -/
structure Bg (w : World) (S U : Nat → Prop) (gb gm n : Nat) (f : Int × Int → Option Value) (L : Int × Int → List Cm) (sz : Nat) : Prop where
  row : w.heap[gb]? = some (.cells #[.map (some gm), .int .i64 (sz : Int)] 55 (0, 0))
  mp : Mt w gm n f
  nn : n ≤ sz
  sb : S gb
  sm : S gm
  bs : ∀ k, S k → k < w.heap.size
  bu : ∀ k, U k → k < w.heap.size
  su : ∀ k, U k → ¬ S k
  no : ∀ e, f e = none → L e = []
  yes : ∀ e v, f e = some v → L e ≠ [] ∧ w.ownsRow 0 38 6 v (L e).length (czL (L e)) ∧ (L e).length ≤ sz ∧ ∀ j, v.ownBlock = some j → S j
  ap : ∀ e e' v v' j, f e = some v → f e' = some v' → v.ownBlock = some j → v'.ownBlock = some j → e = e'
  cs : ∀ e, ∀ c ∈ L e, CmOk True w U c
  ib : ∀ e, L e ≠ [] → InB e
  tot : ∀ ss : List (Int × Int), ss.Nodup → (ss.flatMap L).length ≤ sz
variable {gb gm n sz : Nat} {f : Int × Int → Option Value} {L : Int × Int → List Cm}
/-- What is written elsewhere leaves it. -/
theorem Bg.frame {R : Nat → Prop} (h : Bg w S U gb gm n f L sz) (hm : Mv w w' R) (h1 : ∀ j, S j → ¬ R j) (h2 : ∀ j, U j → ¬ R j) : Bg w' S U gb gm n f L sz where
  row := hm.at h.row (h1 _ h.sb)
  mp := h.mp.same (hm.2.2.2.2 gm h.mp.lt (h1 _ h.sm))
  nn := h.nn
  sb := h.sb
  sm := h.sm
  bs := fun k hk => Nat.lt_of_lt_of_le (h.bs k hk) hm.size
  bu := fun k hk => Nat.lt_of_lt_of_le (h.bu k hk) hm.size
  su := h.su
  no := h.no
  yes := fun e v hv => by
    obtain ⟨a, b, c, d⟩ := h.yes e v hv
    exact ⟨a, hm.own b (fun j e => h1 j (d j e)), c, d⟩
  ap := h.ap
  cs := fun e c hc => (h.cs e c hc).frame hm h2
  ib := h.ib
  tot := h.tot
theorem Bg.later (h : Bg w S U gb gm n f L sz) (hb : Below w.heap.size w w') : Bg w' S U gb gm n f L sz := h.frame (Mv.of_below hb (fun _ => False)) (fun _ _ e => e) (fun _ _ e => e)
/-- The cells of a list's block are commands. -/
theorem own_ty {W : World} {B e s m : Nat} {v : Value} {xs : List Value} {g : Nat} (h : W.ownsRow B e s v m xs) (hv : v.ownBlock = some g) : ∃ cs, W.heap[g]? = some (.cells cs e (0, 0)) := by
  rcases h.2 with ⟨rfl, -⟩ | ⟨g', cap, cur, rfl, -, hg, -⟩
  · cases hv
  · have : g' = g := Option.some.inj hv
    subst this
    exact ⟨cur, hg⟩
theorem Bg.gmb (h : Bg w S U gb gm n f L sz) : gm ≠ gb := fun e => by
  obtain ⟨D, ⟨es, ck, h1, -⟩, -⟩ := h.mp
  rw [e, h.row] at h1
  cases h1
/-- One more command: an entry, the list grown, the entry's store, the count. -/
theorem Bg.put {c : Cm} {e : Int × Int} {v : Value} {w0 w2 w3 w4 w5 : World} {g9 cap : Nat} (h : Bg w S U gb gm n f L sz) (he : InB e)
    (hb : Below w.heap.size w w0) (hc : CmOk True w0 (fun k => w.heap.size ≤ k ∧ k < w0.heap.size) c)
    (hv : v = (f e).getD (.slice none 0 0)) (m2 : Mv w0 w2 (fun k => k = gm))
    (ho3 : w3.ownsRow 0 38 6 (.slice (some ⟨g9, 0, none⟩) ((L e).length + 1) cap) ((L e).length + 1) (czL (L e) ++ cmL c)) (hg3 : w2.grownBy w3 v.ownBlock) (hg9 : v.ownBlock = some g9 ∨ g9 = w2.heap.size) (hlt : g9 < w3.heap.size)
    (m4 : w3.mapTurned w4 gm) (hM : Mt w4 gm (n + 1) (fun x => if x = e then some (.slice (some ⟨g9, 0, none⟩) ((L e).length + 1) cap) else f x)) (h5 : w5 = w4.setCell ⟨gb, 1, none⟩ (.int .i64 ((sz : Int) + 1))) :
    Bg w5 (fun k => S k ∨ k = g9) (fun k => U k ∨ w.heap.size ≤ k ∧ k < w0.heap.size) gb gm (n + 1) (fun x => if x = e then some (.slice (some ⟨g9, 0, none⟩) ((L e).length + 1) cap) else f x) (fun x => if x = e then L e ++ [c] else L x) (sz + 1) ∧ Mv w w5 S := by
  have hsv : ∀ j, v.ownBlock = some j → S j ∧ j ≠ gb ∧ j ≠ gm := fun j hj => by
    cases hf : f e with
    | none => rw [hv, hf] at hj; cases hj
    | some u =>
      rw [hv, hf] at hj
      obtain ⟨-, b, -, d⟩ := h.yes e u hf
      obtain ⟨cs, hcs⟩ := own_ty b hj
      refine ⟨d j hj, fun e1 => ?_, fun e1 => ?_⟩
      · rw [e1, h.row] at hcs
        injection hcs with hcs
        injection hcs with _ h2 _
        exact absurd h2 (by decide)
      · obtain ⟨D, ⟨es, ck, k1, -⟩, -⟩ := h.mp
        rw [e1, k1] at hcs
        cases hcs
  have mw2 : Mv w w2 S := (Mv.of_below hb S).trans m2 (fun k _ e => by subst e; exact h.sm)
  have mw3 : Mv w w3 S := mw2.grown hg3 (fun k _ e => (hsv k e).1)
  have mw4 : Mv w w4 S := mw3.grown m4.grown (fun k _ e => by cases e; exact h.sm)
  have m5 : Mv w4 w5 (fun k => k = gb) := by rw [h5]; exact (Mv.refl w4 (fun k => k = gb)).set rfl 1 _
  have mw5 : Mv w w5 S := mw4.trans m5 (fun k _ e => by subst e; exact h.sb)
  refine ⟨?_, mw5⟩
  have s0 := hb.size
  have s2 := m2.size
  have s3 := hg3.size
  have s4 := m4.grown.size
  have s5 := m5.size
  have hgbn : ∀ j, v.ownBlock = some j → ¬ j = gb := fun j hj => (hsv j hj).2.1
  have hgb0 := h.bs gb h.sb
  have hgm0 := h.bs gm h.sm
  have hgb9 : ¬ g9 = gb := fun e1 => by
    rcases hg9 with e2 | e2
    · exact hgbn g9 e2 e1
    · omega
  have hgm9 : ¬ g9 = gm := fun e1 => by
    rcases hg9 with e2 | e2
    · exact (hsv g9 e2).2.2 e1
    · omega
  have m45 : Mv w3 w5 (fun k => k = gb ∨ k = gm) := ((Mv.refl w3 (fun k => k = gb ∨ k = gm)).grown m4.grown (fun k _ e => by cases e; exact .inr rfl)).trans m5 (fun k _ e => .inl e)
  have hS9 : v.ownBlock = some g9 ∨ ¬ S g9 ∧ ¬ U g9 ∧ w0.heap.size ≤ g9 := by
    rcases hg9 with e | e
    · exact .inl e
    · refine .inr ⟨fun k => ?_, fun k => ?_, by omega⟩
      · have := h.bs g9 k; omega
      · have := h.bu g9 k; omega
  have row5 : w5.heap[gb]? = some (.cells #[.map (some gm), .int .i64 ((sz : Int) + 1)] 55 (0, 0)) := by
    have r0 := (hb.block gb hgb0).trans h.row
    have r2 := m2.at r0 (fun e => h.gmb e.symm)
    have r3 : w3.heap[gb]? = _ := (hg3.block gb (lt_of_block r2) (fun e => hgbn gb e.symm rfl)).trans r2
    have r4 : w4.heap[gb]? = _ := (m4.grown.block gb (lt_of_block r3) (fun e => h.gmb (Option.some.inj e).symm)).trans r3
    rw [h5]
    exact heap_setCell_same w4 gb 1 _ 55 _ r4
  exact {
    row := by rw [row5]; push_cast; rfl
    mp := hM.same (m5.2.2.2.2 gm hM.lt (fun e => h.gmb e))
    nn := by have := h.nn; omega
    sb := .inl h.sb
    sm := .inl h.sm
    bs := fun k hk => by
      rcases hk with hk | rfl
      · have := h.bs k hk; omega
      · omega
    bu := fun k hk => by
      rcases hk with hk | hk
      · have := h.bu k hk; omega
      · omega
    su := fun k hk hs => by
      rcases hk with hk | hk
      · rcases hs with hs | rfl
        · exact h.su k hk hs
        · rcases hS9 with e | e
          · exact h.su _ hk (hsv _ e).1
          · exact e.2.1 hk
      · rcases hs with hs | rfl
        · have := h.bs k hs; omega
        · rcases hS9 with e | e
          · have := h.bs _ (hsv _ e).1; omega
          · omega
    no := fun x hx => by
      by_cases ex : x = e
      · simp only [if_pos ex] at hx
        cases hx
      · simp only [if_neg ex] at hx ⊢
        exact h.no x hx
    yes := fun x u hu => by
      by_cases ex : x = e
      · simp only [if_pos ex, Option.some.injEq] at hu ⊢
        subst hu
        refine ⟨by simp, ?_, ?_, fun j hj => .inr (Option.some.inj hj).symm⟩
        · rw [czL_push, List.length_append]
          exact m45.own ho3 (fun j hj e1 => by
            have e2 : g9 = j := Option.some.inj hj
            rcases e1 with e1 | e1
            · exact hgb9 (e2.trans e1)
            · exact hgm9 (e2.trans e1))
        · rw [List.length_append]
          cases hf : f e with
          | none => rw [h.no e hf]; simp
          | some u => have := (h.yes e u hf).2.2.1; simp; omega
      · simp only [if_neg ex] at hu ⊢
        obtain ⟨a, b, c1, d⟩ := h.yes x u hu
        refine ⟨a, ?_, by omega, fun j hj => .inl (d j hj)⟩
        have hx1 : ∀ j, u.ownBlock = some j → ¬ (j = gb ∨ j = gm) := fun j hj => by
          obtain ⟨cs, hcs⟩ := own_ty b hj
          rintro (e1 | e1)
          · rw [e1, h.row] at hcs
            injection hcs with hcs
            injection hcs with _ h2 _
            exact absurd h2 (by decide)
          · obtain ⟨D, ⟨es, ck, k1, -⟩, -⟩ := h.mp
            rw [e1, k1] at hcs
            cases hcs
        have b2 := m2.own (own_later b hb) (fun j hj e1 => hx1 j hj (.inr e1))
        have b3 : w3.ownsRow 0 38 6 u (L x).length (czL (L x)) := ((Mv.refl w2 (fun k => v.ownBlock = some k)).grown hg3 (fun k _ e1 => e1)).own b2 (fun j hj e1 => by
          cases hf : f e with
          | none => rw [hv, hf] at e1; cases e1
          | some u0 =>
            rw [hv, hf] at e1
            exact ex (h.ap x e u u0 j hu hf hj e1))
        exact m45.own b3 hx1
    ap := fun x y u u' j hu hu' hj hj' => by
      have key : ∀ z, z ≠ e → ∀ t, f z = some t → t.ownBlock = some j → g9 = j → False := fun z hz t ht hj1 e9 => by
        rcases hS9 with e1 | e1
        · cases hf : f e with
          | none => rw [hv, hf] at e1; cases e1
          | some u0 =>
            rw [hv, hf] at e1
            exact hz (h.ap z e t u0 j ht hf hj1 (by rw [← e9]; exact e1))
        · exact e1.1 (by rw [e9]; exact (h.yes z t ht).2.2.2 j hj1)
      by_cases ex : x = e
      · by_cases ey : y = e
        · rw [ex, ey]
        · simp only [if_pos ex, if_neg ey, Option.some.injEq] at hu hu'
          subst hu
          exact (key y ey u' hu' hj' (Option.some.inj hj)).elim
      · by_cases ey : y = e
        · simp only [if_neg ex, if_pos ey, Option.some.injEq] at hu hu'
          subst hu'
          exact (key x ex u hu hj (Option.some.inj hj')).elim
        · simp only [if_neg ex, if_neg ey] at hu hu'
          exact h.ap x y u u' j hu hu' hj hj'
    cs := fun x d hd => by
      have old : ∀ d, CmOk True w U d → CmOk True w5 (fun k => U k ∨ w.heap.size ≤ k ∧ k < w0.heap.size) d := fun d hd => (hd.frame mw5 h.su).wide (fun j hj => .inl hj)
      by_cases ex : x = e
      · simp only [if_pos ex] at hd
        rcases List.mem_append.1 hd with hd | hd
        · exact old d (h.cs e d hd)
        · simp only [List.mem_singleton] at hd
          subst hd
          have mw05 : Mv w0 w5 (fun k => S k) := ((m2.mono (S' := S) (fun k _ e1 => by subst e1; exact h.sm)).grown hg3 (fun k _ e1 => (hsv k e1).1)).trans (m45.mono (S' := S) (fun k _ e1 => by
            rcases e1 with rfl | rfl
            · exact h.sb
            · exact h.sm)) (fun _ _ e1 => e1)
          exact (hc.frame mw05 (fun j hj hs => by have := h.bs j hs; omega)).wide (fun j hj => .inr hj)
      · simp only [if_neg ex] at hd
        exact old d (h.cs x d hd)
    ib := fun x hx => by
      by_cases ex : x = e
      · rw [ex]; exact he
      · simp only [if_neg ex] at hx
        exact h.ib x hx
    tot := fun ss hn => by
      have := flat_upd L e c ss hn
      have h2 := h.tot ss hn
      split at this <;> omega }
end
end Go.Proofs.YtfbhoemfabgjpaaGreat
