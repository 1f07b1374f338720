/-
  What the law holds, while it is written over and grown.
-/
import Derived.Test.YtejbdhbphbgckaaFil0
namespace Go.Proofs.Ytejbdhbphbgckaa
open Go.RowKit
abbrev Four := Value × Value × Value × Value
/-- The law's world: its four pools, and what it holds. -/
def Wd (w : World) (gw : Nat) (x : Four) (vl : Value) (L : List Held) : Prop :=
  w.heap[gw]? = some (.cells #[x.1, x.2.1, x.2.2.1, x.2.2.2, vl] 32 (0, 0)) ∧ w.ownsRow 0 69 3 vl L.length (lc L) ∧ vl.ownBlock ≠ some gw
section
variable {w w' W W' : World} {gw : Nat} {x : Four} {vl v' : Value} {L : List Held} {y : Held}
theorem Wd.cell (h : Wd w gw x vl L) : w.cell? ⟨gw, 4, none⟩ = some vl := by rw [cell_of_row w gw _ _ 32 (0, 0) h.1]; rfl
theorem Wd.frozen (h : Wd w gw x vl L) : w.frozen? ⟨gw, 4, none⟩ = false := frozen_of_row w gw 4 _ 32 h.1
theorem Wd.lt (h : Wd w gw x vl L) : gw < w.heap.size := lt_of_block h.1
theorem Wd.frame {T : Nat → Prop} (h : Wd w gw x vl L) (hm : Mv w w' T) (h0 : ¬ T gw) (h1 : ∀ k, vl.ownBlock = some k → ¬ T k) : Wd w' gw x vl L :=
  ⟨hm.at h.1 h0, hm.own h.2.1 h1, h.2.2⟩
theorem Wd.later (h : Wd w gw x vl L) (hb : Below w.heap.size w w') : Wd w' gw x vl L := h.frame (Mv.of_below hb (fun _ => False)) (fun e => e) (fun _ _ e => e)
theorem lc_append (a b : List Held) : lc (a ++ b) = lc a ++ lc b := by simp [lc]
theorem Wd.push (h : Wd w gw x vl L) (hb : Below w.heap.size w W) (ho : W'.ownsRow 0 69 3 v' (L.length + 1) (lc L ++ [y.1, y.2.1, .int .i64 y.2.2])) (hg : W.grownBy W' vl.ownBlock) (ha : v'.ownBlock = vl.ownBlock ∨ v'.ownBlock = some W.heap.size) :
    Wd (W'.setCell ⟨gw, 4, none⟩ v') gw x v' (L ++ [y]) ∧ Mv w (W'.setCell ⟨gw, 4, none⟩ v') (fun k => k = gw ∨ vl.ownBlock = some k) := by
  have hlt := h.lt
  have hsz := hb.size
  have hne : v'.ownBlock ≠ some gw := fun e => by
    rcases ha with h1 | h1
    · exact h.2.2 (h1 ▸ e)
    · rw [e] at h1; have := Option.some.inj h1; omega
  have h1 : W'.heap[gw]? = some (.cells #[x.1, x.2.1, x.2.2.1, x.2.2.2, vl] 32 (0, 0)) := (hg.block gw (by omega) (fun e => h.2.2 e.symm)).trans ((hb.block gw hlt).trans h.1)
  refine ⟨⟨heap_setCell_same W' gw 4 _ 32 v' h1, ?_, hne⟩, ?_⟩
  · have := own_set (k := 4) (u := v') ho hne
    rw [lc_append, List.length_append]
    simpa [lc] using this
  · exact (((Mv.of_below hb _).grown hg (fun k _ e => .inr e)).set (g := gw) (.inl rfl) 4 v')
def mj (b j : Nat) : Int := -1 - ((b + j : Nat) : Int)
def mks (f : Value → Int → Held) (b : Nat) (Vs : List (Value × Nat)) : List Held := Vs.mapIdx fun j p => f p.1 (mj b j)
def Rb (Vs : List (Value × Nat)) (k : Nat) : Prop := ∃ p ∈ Vs, p.1.ownBlock = some k
/-- The rows that come in: apart from one another, and from what the law's world is made of. -/
def Sta (w0 : World) (gw : Nat) (S : Nat → Prop) (Vs : List (Value × Nat)) : Prop :=
  S gw ∧ (∀ k, S k → k < w0.heap.size) ∧ (∀ k, Rb Vs k → ¬ S k ∧ k < w0.heap.size) ∧ ∀ i j (hi : i < Vs.length) (hj : j < Vs.length), i ≠ j → Ap Vs[i].1 Vs[j].1
end
section
variable {e s : Nat} {f : Value → Int → Held} {w0 W W' W1 : World} {gw : Nat} {x : Four} {S : Nat → Prop} {L G : List Held} {Vs : List (Value × Nat)} {vl v' u : Value} {i k : Nat}
theorem mks_len : (mks f k Vs).length = Vs.length := by simp [mks]
theorem mks_at (hi : i < Vs.length) : (mks f k Vs)[i]'(by rw [mks_len]; exact hi) = f Vs[i].1 (mj k i) := by simp [mks]
theorem mks_take (hi : i < Vs.length) : (mks f k Vs).take (i + 1) = (mks f k Vs).take i ++ [f Vs[i].1 (mj k i)] := by
  rw [List.take_add_one, List.getElem?_eq_getElem (by rw [mks_len]; exact hi), mks_at hi]; rfl
/-- i rows are written over and held, of the next one k places. -/
def F1 (e s : Nat) (f : Value → Int → Held) (w0 W : World) (gw : Nat) (x : Four) (S : Nat → Prop) (L : List Held) (Vs : List (Value × Nat)) (vl : Value) (i k : Nat) : Prop :=
  Wd W gw x vl (L ++ (mks f L.length Vs).take i) ∧ In (Nw w0 S) vl ∧ (∀ j (hj : j < Vs.length), Mo e s W Vs[j].1 Vs[j].2 (mj L.length j) (if j < i then Vs[j].2 else if j = i then k else 0)) ∧ Mv w0 W (fun k => S k ∨ Rb Vs k)
theorem row_in (hi : i < Vs.length) : ∀ q, Vs[i].1.ownBlock = some q → Rb Vs q := fun _q e => ⟨_, List.getElem_mem hi, e⟩
theorem vl_apart (hs : Sta w0 gw S Vs) (hv : In (Nw w0 S) vl) : ∀ q, vl.ownBlock = some q → ¬ Rb Vs q := fun q e r => by
  rcases hv q e with h | h
  · exact (hs.2.2.1 q r).1 h
  · have := (hs.2.2.1 q r).2; omega
theorem F1.len (_h : F1 e s f w0 W gw x S L Vs vl i k) (hi : i ≤ Vs.length) : (L ++ (mks f L.length Vs).take i).length = L.length + i := by
  rw [List.length_append, List.length_take, mks_len]; omega
theorem F1.write (hs : Sta w0 gw S Vs) (h : F1 e s f w0 W gw x S L Vs vl i k) (hi : i < Vs.length) (hm : Mv W W' (fun q => Vs[i].1.ownBlock = some q)) (hk : Mo e s W' Vs[i].1 Vs[i].2 (mj L.length i) (k + 1)) : F1 e s f w0 W' gw x S L Vs vl i (k + 1) := by
  obtain ⟨h1, h2, h3, h4⟩ := h
  have hgw : ¬ Vs[i].1.ownBlock = some gw := fun e => (hs.2.2.1 gw (row_in hi gw e)).1 hs.1
  refine ⟨h1.frame hm hgw (fun q e r => vl_apart hs h2 q e (row_in hi q r)), h2, fun j hj => ?_, h4.trans hm (fun q _ e => .inr (row_in hi q e))⟩
  by_cases e : j = i
  · subst e
    rw [if_neg (Nat.lt_irrefl _), if_pos rfl]
    exact hk
  · have := (h3 j hj).frame hm (fun q h1 h2 => hs.2.2.2 j i hj hi e q h1 h2)
    simpa only [if_neg e] using this
theorem F1.push (hs : Sta w0 gw S Vs) (h : F1 e s f w0 W gw x S L Vs vl i k) (hi : i < Vs.length) (hk : k = Vs[i].2) (hb : Below W.heap.size W W1)
    (ho : W'.ownsRow 0 69 3 v' (L.length + i + 1) (lc (L ++ (mks f L.length Vs).take i) ++ [(f Vs[i].1 (mj L.length i)).1, (f Vs[i].1 (mj L.length i)).2.1, .int .i64 (f Vs[i].1 (mj L.length i)).2.2])) (hg : W1.grownBy W' vl.ownBlock) (ha : v'.ownBlock = vl.ownBlock ∨ v'.ownBlock = some W1.heap.size) :
    F1 e s f w0 (W'.setCell ⟨gw, 4, none⟩ v') gw x S L Vs v' (i + 1) 0 := by
  have hl := h.len (Nat.le_of_lt hi)
  obtain ⟨h1, h2, h3, h4⟩ := h
  rw [← hl] at ho
  obtain ⟨p1, p2⟩ := h1.push hb ho hg ha
  have hgw : ∀ q, Rb Vs q → ¬ (q = gw ∨ vl.ownBlock = some q) := fun q r e => by
    rcases e with rfl | e
    · exact (hs.2.2.1 _ r).1 hs.1
    · exact vl_apart hs h2 q e r
  refine ⟨?_, ?_, fun j hj => ?_, h4.trans p2 (fun q hq e => ?_)⟩
  · rw [mks_take hi, ← List.append_assoc]; exact p1
  · intro q e
    rcases ha with h | h
    · exact h2 q (h ▸ e)
    · rw [e] at h; have := Option.some.inj h; have := hb.size; have := h4.size; exact .inr (by omega)
  · have := (h3 j hj).frame p2 (fun q e => hgw q (row_in hj q e))
    by_cases e : j < i
    · rw [if_pos e] at this; rw [if_pos (by omega)]; exact this
    · by_cases e2 : j = i
      · subst e2
        rw [if_neg e, if_pos rfl] at this
        rw [if_pos (by omega)]; rw [hk] at this; exact this
      · rw [if_neg e, if_neg e2] at this
        rw [if_neg (by omega)]
        split <;> exact this
  · rcases e with rfl | e
    · exact .inl hs.1
    · rcases h2 q e with h | h
      · exact .inl h
      · omega
/-- All are held; those of G are grown. -/
def F3 (e s : Nat) (f : Value → Int → Held) (w0 W : World) (gw : Nat) (x : Four) (S : Nat → Prop) (L : List Held) (Vs : List (Value × Nat)) (vl : Value) (G : List Held) : Prop :=
  Wd W gw x vl (L ++ mks f L.length Vs ++ G) ∧ In (Nw w0 S) vl ∧ (∀ j (hj : j < Vs.length), Mo e s W Vs[j].1 Vs[j].2 (mj L.length j) Vs[j].2) ∧
  (∀ j (hj : j < Vs.length) (hg : j < G.length), ∃ u, G[j] = f u (mj L.length j) ∧ Mo e s W u (Vs[j].2 + 64) (mj L.length j) (Vs[j].2 + 64) ∧ ∀ q, u.ownBlock = some q → (Vs[j].1.ownBlock = some q ∨ w0.heap.size ≤ q) ∧ vl.ownBlock ≠ some q) ∧
  Mv w0 W (fun k => S k ∨ Rb Vs k)
theorem F1.third (h : F1 e s f w0 W gw x S L Vs vl Vs.length k) : F3 e s f w0 W gw x S L Vs vl [] := by
  obtain ⟨h1, h2, h3, h4⟩ := h
  refine ⟨?_, h2, fun j hj => ?_, fun j _ hg => by simp at hg, h4⟩
  · rw [List.take_of_length_le (by rw [mks_len]; exact Nat.le_refl _)] at h1
    rw [List.append_nil]; exact h1
  · have := h3 j hj
    rwa [if_pos hj] at this
theorem F3.len (_h : F3 e s f w0 W gw x S L Vs vl G) : (L ++ mks f L.length Vs ++ G).length = L.length + Vs.length + G.length := by
  rw [List.length_append, List.length_append, mks_len]
theorem F3.grow (hs : Sta w0 gw S Vs) (h : F3 e s f w0 W gw x S L Vs vl G) (hi : G.length < Vs.length) (hm : Mv W W' (fun q => Vs[G.length].1.ownBlock = some q)) (hk : Mo e s W' Vs[G.length].1 Vs[G.length].2 (mj L.length G.length) Vs[G.length].2) : F3 e s f w0 W' gw x S L Vs vl G := by
  obtain ⟨h1, h2, h3, h4, h5⟩ := h
  have hgw : ¬ Vs[G.length].1.ownBlock = some gw := fun e => (hs.2.2.1 gw (row_in hi gw e)).1 hs.1
  refine ⟨h1.frame hm hgw (fun q e r => vl_apart hs h2 q e (row_in hi q r)), h2, fun j hj => ?_, fun j hj hg => ?_, h5.trans hm (fun q _ e => .inr (row_in hi q e))⟩
  · by_cases e : j = G.length
    · subst e; exact hk
    · exact (h3 j hj).frame hm (fun q h1 h2 => hs.2.2.2 j _ hj hi e q h1 h2)
  · obtain ⟨u, a1, a2, a3⟩ := h4 j hj hg
    refine ⟨u, a1, a2.frame hm (fun q e r => ?_), a3⟩
    rcases (a3 q e).1 with h | h
    · exact hs.2.2.2 j _ hj hi (by omega) q h r
    · have := (hs.2.2.1 q (row_in hi q r)).2; omega
theorem F3.push (hs : Sta w0 gw S Vs) (h : F3 e s f w0 W gw x S L Vs vl G) (hi : G.length < Vs.length) (hu : Mo e s W u (Vs[G.length].2 + 64) (mj L.length G.length) (Vs[G.length].2 + 64))
    (hub : ∀ q, u.ownBlock = some q → (Vs[G.length].1.ownBlock = some q ∨ w0.heap.size ≤ q) ∧ vl.ownBlock ≠ some q) (hb : Below W.heap.size W W1)
    (ho : W'.ownsRow 0 69 3 v' (L.length + Vs.length + G.length + 1) (lc (L ++ mks f L.length Vs ++ G) ++ [(f u (mj L.length G.length)).1, (f u (mj L.length G.length)).2.1, .int .i64 (f u (mj L.length G.length)).2.2])) (hg : W1.grownBy W' vl.ownBlock) (ha : v'.ownBlock = vl.ownBlock ∨ v'.ownBlock = some W1.heap.size) :
    F3 e s f w0 (W'.setCell ⟨gw, 4, none⟩ v') gw x S L Vs v' (G ++ [f u (mj L.length G.length)]) := by
  have hl := h.len
  obtain ⟨h1, h2, h3, h4, h5⟩ := h
  rw [← hl] at ho
  obtain ⟨p1, p2⟩ := h1.push hb ho hg ha
  have hgw : ∀ q, Rb Vs q → ¬ (q = gw ∨ vl.ownBlock = some q) := fun q r e => by
    rcases e with rfl | e
    · exact (hs.2.2.1 _ r).1 hs.1
    · exact vl_apart hs h2 q e r
  have hv' : ∀ q, q < W.heap.size → vl.ownBlock ≠ some q → v'.ownBlock ≠ some q := fun q hq hn e => by
    rcases ha with h | h
    · exact hn (h ▸ e)
    · rw [e] at h; have := Option.some.inj h; have := hb.size; omega
  have hgs : gw < w0.heap.size := hs.2.1 gw hs.1
  have key : ∀ (u : Value) (j : Nat) (hj : j < Vs.length), (∀ q, u.ownBlock = some q → (Vs[j].1.ownBlock = some q ∨ w0.heap.size ≤ q) ∧ vl.ownBlock ≠ some q) → Mo e s W u (Vs[j].2 + 64) (mj L.length j) (Vs[j].2 + 64) →
      Mo e s (W'.setCell ⟨gw, 4, none⟩ v') u (Vs[j].2 + 64) (mj L.length j) (Vs[j].2 + 64) ∧ ∀ q, u.ownBlock = some q → (Vs[j].1.ownBlock = some q ∨ w0.heap.size ≤ q) ∧ v'.ownBlock ≠ some q := fun u j hj a b =>
    ⟨b.frame p2 (fun q e r => by
      rcases r with rfl | r
      · rcases (a _ e).1 with h | h
        · exact (hs.2.2.1 _ (row_in hj _ h)).1 hs.1
        · omega
      · exact (a q e).2 r), fun q e => ⟨(a q e).1, hv' q (b.lt q e) (a q e).2⟩⟩
  refine ⟨?_, ?_, fun j hj => ?_, fun j hj hg => ?_, h5.trans p2 (fun q hq e => ?_)⟩
  · rw [← List.append_assoc]; exact p1
  · intro q e
    rcases ha with h | h
    · exact h2 q (h ▸ e)
    · rw [e] at h; have := Option.some.inj h; have := hb.size; have := h5.size; exact .inr (by omega)
  · exact (h3 j hj).frame p2 (fun q e => hgw q (row_in hj q e))
  · by_cases e : j < G.length
    · obtain ⟨u', a1, a2, a3⟩ := h4 j hj e
      obtain ⟨b1, b2⟩ := key u' j hj a3 a2
      exact ⟨u', by rw [List.getElem_append_left e]; exact a1, b1, b2⟩
    · have : j = G.length := by simp at hg; omega
      subst this
      obtain ⟨b1, b2⟩ := key u _ hj hub hu
      exact ⟨u, by simp, b1, b2⟩
  · rcases e with rfl | e
    · exact .inl hs.1
    · rcases h2 q e with h | h
      · exact .inl h
      · omega
end
def f3 (v : Value) (m : Int) : Held := (v, .slice none 0 0, m)
def f41 (v : Value) (m : Int) : Held := (.slice none 0 0, v, m)
/-- The law's world with all that it holds: S its own blocks, H those of what it holds. -/
def Wl (w : World) (gw : Nat) (x : Four) (S H : Nat → Prop) (L : List Held) : Prop :=
  ∃ vl, Wd w gw x vl L ∧ S gw ∧ In S vl ∧ (∀ k, S k → k < w.heap.size ∧ ¬ H k) ∧ (∀ k, H k → k < w.heap.size) ∧ ∀ y ∈ L, Ia w y.1 y.2.2 ∧ Ea w y.2.1 y.2.2 ∧ In H y.1 ∧ In H y.2.1
section
variable {e s : Nat} {f : Value → Int → Held} {w0 W : World} {gw : Nat} {x : Four} {S H : Nat → Prop} {L G : List Held} {Vs : List (Value × Nat)} {vl : Value}
theorem fill_end (hf : ∀ v n m, Mo e s W v n m n → Ia W (f v m).1 (f v m).2.2 ∧ Ea W (f v m).2.1 (f v m).2.2) (hfb : ∀ v m q, (f v m).1.ownBlock = some q ∨ (f v m).2.1.ownBlock = some q → v.ownBlock = some q)
    (hw : Wl w0 gw x S H L) (hr : ∀ k, Rb Vs k → ¬ H k) (hs : Sta w0 gw S Vs) (h : F3 e s f w0 W gw x S L Vs vl G) (hG : G.length = Vs.length) :
    ∃ S' H' L2, Wl W gw x S' H' (L ++ L2) ∧ L2.length = 2 * Vs.length ∧ (∀ k, S' k → S k ∨ w0.heap.size ≤ k) ∧ (∀ k, H' k → H k ∨ Rb Vs k ∨ w0.heap.size ≤ k) ∧ Mv w0 W (fun k => S k ∨ Rb Vs k) := by
  obtain ⟨h1, h2, h3, h4, h5⟩ := h
  obtain ⟨vl0, k1, k2, k3, k4, k5, k6⟩ := hw
  have hsz := h5.size
  have hgl := k1.lt
  have key : ∀ y ∈ mks f L.length Vs ++ G, Ia W y.1 y.2.2 ∧ Ea W y.2.1 y.2.2 ∧ ∀ q, y.1.ownBlock = some q ∨ y.2.1.ownBlock = some q → q < W.heap.size ∧ (Rb Vs q ∨ w0.heap.size ≤ q) ∧ vl.ownBlock ≠ some q := fun y hy => by
    rw [List.mem_append] at hy
    rcases hy with hy | hy
    · obtain ⟨j, hj, rfl⟩ := List.getElem_of_mem hy
      have hj' : j < Vs.length := by rwa [mks_len] at hj
      rw [mks_at hj']
      have := h3 j hj'
      refine ⟨(hf _ _ _ this).1, (hf _ _ _ this).2, fun q e => ?_⟩
      have e := hfb _ _ _ e
      have r := row_in hj' q e
      exact ⟨this.lt q e, .inl r, fun e2 => vl_apart hs h2 q e2 r⟩
    · obtain ⟨j, hj, rfl⟩ := List.getElem_of_mem hy
      have hj' : j < Vs.length := by omega
      obtain ⟨u, a1, a2, a3⟩ := h4 j hj' hj
      rw [a1]
      refine ⟨(hf _ _ _ a2).1, (hf _ _ _ a2).2, fun q e => ?_⟩
      have e := hfb _ _ _ e
      refine ⟨a2.lt q e, ?_, (a3 q e).2⟩
      rcases (a3 q e).1 with h | h
      · exact .inl (row_in hj' q h)
      · exact .inr h
  refine ⟨fun k => k = gw ∨ vl.ownBlock = some k, fun k => H k ∨ ∃ y ∈ mks f L.length Vs ++ G, y.1.ownBlock = some k ∨ y.2.1.ownBlock = some k, mks f L.length Vs ++ G, ⟨vl, ?_, .inl rfl, fun k e => .inr e, ?_, ?_, ?_⟩, ?_, ?_, ?_, h5⟩
  · rw [← List.append_assoc]; exact h1
  · rintro k (rfl | e)
    · refine ⟨by omega, fun h => ?_⟩
      rcases h with h | ⟨y, hy, h⟩
      · exact (k4 _ k2).2 h
      · rcases ((key y hy).2.2 _ h).2.1 with h | h
        · exact (hs.2.2.1 _ h).1 k2
        · omega
    · refine ⟨(h1.2.1.lt k e).2, fun h => ?_⟩
      rcases h with h | ⟨y, hy, h⟩
      · rcases h2 k e with h' | h'
        · exact (k4 _ h').2 h
        · have := k5 k h; omega
      · exact ((key y hy).2.2 _ h).2.2 e
  · rintro k (h | ⟨y, hy, h⟩)
    · have := k5 k h; omega
    · exact ((key y hy).2.2 _ h).1
  · intro y hy
    rw [List.mem_append] at hy
    rcases hy with hy | hy
    · obtain ⟨a1, a2, a3, a4⟩ := k6 y hy
      have hn : ∀ q, H q → ¬ (S q ∨ Rb Vs q) := fun q e r => by
        rcases r with r | r
        · exact (k4 q r).2 e
        · exact hr q r e
      exact ⟨a1.frame h5 (fun q e => hn q (a3 q e)), a2.frame h5 (fun q e => hn q (a4 q e)), fun q e => .inl (a3 q e), fun q e => .inl (a4 q e)⟩
    · obtain ⟨a1, a2, a3⟩ := key y hy
      exact ⟨a1, a2, fun q e => .inr ⟨y, hy, .inl e⟩, fun q e => .inr ⟨y, hy, .inr e⟩⟩
  · rw [List.length_append, mks_len, hG]; omega
  · rintro k (rfl | e)
    · exact .inl k2
    · exact h2 k e
  · rintro k (h | ⟨y, hy, h⟩)
    · exact .inl h
    · exact .inr ((key y hy).2.2 _ h).2.1
end
theorem hf3 (W : World) : ∀ v n m, Mo 3 1 W v n m n → Ia W (f3 v m).1 (f3 v m).2.2 ∧ Ea W (f3 v m).2.1 (f3 v m).2.2 := fun _ _ _ h => ⟨h.ia, Ea.nil _ _⟩
theorem hf41 (W : World) : ∀ v n m, Mo 41 2 W v n m n → Ia W (f41 v m).1 (f41 v m).2.2 ∧ Ea W (f41 v m).2.1 (f41 v m).2.2 := fun _ _ _ h => ⟨Ia.nil _ _, h.ea⟩
theorem hb3 : ∀ v m q, (f3 v m).1.ownBlock = some q ∨ (f3 v m).2.1.ownBlock = some q → v.ownBlock = some q := fun v m q h => by
  rcases h with h | h
  · exact h
  · simp [f3, Value.ownBlock] at h
theorem hb41 : ∀ v m q, (f41 v m).1.ownBlock = some q ∨ (f41 v m).2.1.ownBlock = some q → v.ownBlock = some q := fun v m q h => by
  rcases h with h | h
  · simp [f41, Value.ownBlock] at h
  · exact h
end Go.Proofs.Ytejbdhbphbgckaa
