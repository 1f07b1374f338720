/-
  Tables and the document's beside one another, and what the law holds: each block is labelled by whose it is.
-/
import Derived.Test.YtlnjphfkinajdaaFz
import Derived.Test.YtlnjphfkinajdaaClone
namespace Go.Proofs.Ytlnjphfkinajdaa
open Go.RowKit
abbrev Ts := List (Int × Int) × List (List Int)
def TbS (w : World) (S : Nat → Prop) (g : Nat) (s : Ts) (M : Nat) : Prop := ∃ n, n ≤ M ∧ Tb w S g n s.1 s.2
def DtS (w : World) (S : Nat → Prop) (g : Nat) (s : Ts) : Prop := Dt w S g s.1 s.2
section
variable {w w' : World} {S T : Nat → Prop} {g M M' : Nat} {s : Ts}
theorem TbS.mono (h : TbS w S g s M) (hs : ∀ k, S k → T k) : TbS w T g s M := by
  obtain ⟨n, hn, h⟩ := h
  exact ⟨n, hn, h.mono hs⟩
theorem TbS.frame (h : TbS w S g s M) (hm : Mv w w' T) (hs : ∀ k, S k → ¬ T k) : TbS w' S g s M := by
  obtain ⟨n, hn, h⟩ := h
  exact ⟨n, hn, h.frame hm hs⟩
theorem TbS.up (h : TbS w S g s M) (hM : M ≤ M') : TbS w S g s M' := by
  obtain ⟨n, hn, h⟩ := h
  exact ⟨n, by omega, h⟩
theorem TbS.tight (h : TbS w S g s M) : TbS w (fun k => S k ∧ k < w.heap.size) g s M := by
  obtain ⟨n, hn, h⟩ := h
  exact ⟨n, hn, h.tight⟩
end
def Lb (own : Nat → Nat) (w : World) (i : Nat) : Nat → Prop := fun k => k < w.heap.size ∧ own k = i
def ptr (g : Nat) : Value := .pointer (some ⟨g, 0, none⟩)
def upd {α : Type} (C : Nat → α) (i : Nat) (s : α) : Nat → α := fun j => if j = i then s else C j
theorem upd_same {α : Type} (C : Nat → α) (i : Nat) : upd C i (C i) = C := by
  funext j
  unfold upd
  split
  · rename_i h; rw [h]
  · rfl
theorem upd_at {α : Type} (C : Nat → α) (i : Nat) (s : α) : upd C i s i = s := by simp [upd]
/-- The pairs, in cells. -/
def plz (G : Nat → Nat × Nat) : Nat → List Value
  | 0 => []
  | n + 1 => plz G n ++ [ptr (G n).1, ptr (G n).2]
theorem plz_len (G : Nat → Nat × Nat) : ∀ n, (plz G n).length = n * 2
  | 0 => rfl
  | n + 1 => by simp [plz, plz_len G n]; omega
theorem plz_at (G : Nat → Nat × Nat) : ∀ n i, i < n → (plz G n)[i * 2]? = some (ptr (G i).1) ∧ (plz G n)[i * 2 + 1]? = some (ptr (G i).2)
  | n + 1, i, h => by
    by_cases e : i < n
    · have := plz_at G n i e
      have hl := plz_len G n
      simp only [plz]
      rw [List.getElem?_append_left (by omega), List.getElem?_append_left (by omega)]
      exact this
    · obtain rfl : i = n := by omega
      have hl := plz_len G i
      simp only [plz]
      rw [List.getElem?_append_right (by omega), List.getElem?_append_right (by omega), hl]
      simp
theorem plz_eq (G G' : Nat → Nat × Nat) : ∀ n, (∀ i, i < n → G i = G' i) → plz G n = plz G' n
  | 0, _ => rfl
  | n + 1, h => by
    simp only [plz]
    rw [plz_eq G G' n (fun i hi => h i (by omega)), h n (by omega)]
theorem plz_push (G : Nat → Nat × Nat) (n : Nat) (p : Nat × Nat) : plz (upd G n p) (n + 1) = plz G n ++ [ptr p.1, ptr p.2] := by
  simp only [plz, upd_at]
  rw [plz_eq (upd G n p) G n (fun i hi => by unfold upd; rw [if_neg (by omega)])]
/-- A row that reads m throughout. -/
def Al (w : World) (v : Value) (m : Int) : Prop := ∃ n, w.ownsRow 0 2 1 v n (zc (List.replicate n m)) ∧ n ≤ 100000000
abbrev Held := Value × Int
/-- The law's world. -/
def Wd (w : World) (gw : Nat) (vl vi vm : Value) (G : Nat → Nat × Nat) (n : Nat) (L : List Held) : Prop :=
  w.heap[gw]? = some (.cells #[vl, vi, vm] 29 (0, 0)) ∧ w.ownsRow 0 64 2 vl n (plz G n) ∧ w.ownsRow 0 27 1 vi L.length (L.map (·.1)) ∧ w.ownsRow 0 2 1 vm L.length (zc (L.map (·.2))) ∧
  (vl.ownBlock ≠ some gw ∧ vi.ownBlock ≠ some gw ∧ vm.ownBlock ≠ some gw) ∧ Ap vl vi ∧ Ap vl vm ∧ Ap vi vm
def Wl (w : World) (gw : Nat) (S H : Nat → Prop) (G : Nat → Nat × Nat) (n : Nat) (L : List Held) : Prop :=
  ∃ vl vi vm, Wd w gw vl vi vm G n L ∧ (S gw ∧ In S vl ∧ In S vi ∧ In S vm) ∧ ∀ y ∈ L, Al w y.1 y.2 ∧ In H y.1
section
variable {w w' : World} {gw n : Nat} {vl vi vm v : Value} {G : Nat → Nat × Nat} {L : List Held} {S H S' H' T : Nat → Prop} {m : Int}
theorem Al.frame (h : Al w v m) (hm : Mv w w' T) (h1 : ∀ q, v.ownBlock = some q → ¬ T q) : Al w' v m := by
  obtain ⟨n, h2, h3⟩ := h
  exact ⟨n, hm.own h2 h1, h3⟩
theorem Wd.frame (h : Wd w gw vl vi vm G n L) (hm : Mv w w' T) (h0 : ¬ T gw) (h1 : ∀ k, vl.ownBlock = some k → ¬ T k) (h2 : ∀ k, vi.ownBlock = some k → ¬ T k) (h3 : ∀ k, vm.ownBlock = some k → ¬ T k) : Wd w' gw vl vi vm G n L := by
  obtain ⟨a1, a2, a3, a4, a5⟩ := h
  exact ⟨hm.at a1 h0, hm.own a2 h1, hm.own a3 h2, hm.own a4 h3, a5⟩
theorem Wd.later (h : Wd w gw vl vi vm G n L) (hb : Below w.heap.size w w') : Wd w' gw vl vi vm G n L := h.frame (Mv.of_below hb (fun _ => False)) (fun e => e) (fun _ _ e => e) (fun _ _ e => e) (fun _ _ e => e)
theorem Wd.cell (h : Wd w gw vl vi vm G n L) : w.cell? ⟨gw, 0, none⟩ = some vl ∧ w.cell? ⟨gw, 1, none⟩ = some vi ∧ w.cell? ⟨gw, 2, none⟩ = some vm := by
  refine ⟨?_, ?_, ?_⟩ <;> rw [cell_of_row w gw _ _ 29 (0, 0) h.1] <;> rfl
theorem Wd.frozen (h : Wd w gw vl vi vm G n L) (k : Nat) : w.frozen? ⟨gw, k, none⟩ = false := frozen_of_row w gw k _ 29 h.1
theorem Wd.lt (h : Wd w gw vl vi vm G n L) : gw < w.heap.size := lt_of_block h.1
theorem Wl.frame (h : Wl w gw S H G n L) (hm : Mv w w' T) (hs : ∀ k, S k → ¬ T k) (hh : ∀ k, H k → ¬ T k) : Wl w' gw S H G n L := by
  obtain ⟨vl, vi, vm, h1, ⟨s0, s1, s2, s3⟩, h2⟩ := h
  exact ⟨vl, vi, vm, h1.frame hm (hs gw s0) (fun k e => hs k (s1 k e)) (fun k e => hs k (s2 k e)) (fun k e => hs k (s3 k e)), ⟨s0, s1, s2, s3⟩, fun y hy => ⟨(h2 y hy).1.frame hm (fun q e => hh q ((h2 y hy).2 q e)), (h2 y hy).2⟩⟩
theorem Wl.sets (h : Wl w gw S H G n L) (hs : ∀ k, S k → S' k) (hh : ∀ k, H k → H' k) : Wl w gw S' H' G n L := by
  obtain ⟨vl, vi, vm, h1, ⟨s0, s1, s2, s3⟩, h2⟩ := h
  exact ⟨vl, vi, vm, h1, ⟨hs _ s0, s1.mono hs, s2.mono hs, s3.mono hs⟩, fun y hy => ⟨(h2 y hy).1, (h2 y hy).2.mono hh⟩⟩
end
/-- All that the law knows: n pairs, what it holds; at most M entries were ever in one table's map. -/
def Bw (w : World) (gw M : Nat) (own : Nat → Nat) (G : Nat → Nat × Nat) (n : Nat) (C D : Nat → Ts) (L : List Held) : Prop :=
  (∀ i, i < n → TbS w (Lb own w (3 + 2 * i)) (G i).1 (C i) M) ∧ (∀ i, i < n → DtS w (Lb own w (4 + 2 * i)) (G i).2 (D i)) ∧ Wl w gw (Lb own w 1) (Lb own w 2) G n L
/-- All that lies below B is nobody's. -/
def Fe (own : Nat → Nat) (B : Nat) (w : World) : Prop := B ≤ w.heap.size ∧ ∀ k, k < B → own k = 0
def Bu (w : World) (gw B M : Nat) (G : Nat → Nat × Nat) (n : Nat) (C D : Nat → Ts) (L : List Held) : Prop := ∃ own, Fe own B w ∧ Bw w gw M own G n C D L
section
variable {w w' : World} {own own' : Nat → Nat} {gw i j n B M M' : Nat} {G : Nat → Nat × Nat} {C D : Nat → Ts} {L L' : List Held} {S H S' H' T : Nat → Prop}
theorem Lb.ne {i j k : Nat} (h : Lb own w i k) (e : i ≠ j) : ¬ Lb own w' j k := fun h' => e (h.2.symm.trans h'.2)
theorem Bw.bound (h : Bw w gw M own G n C D L) (hM : M ≤ M') : Bw w gw M' own G n C D L := ⟨fun i hi => (h.1 i hi).up hM, h.2⟩
theorem Fe.ext (h : Fe own B w) (hsz : w.heap.size ≤ w'.heap.size) (i : Nat) : Fe (ext own w.heap.size i) B w' :=
  ⟨Nat.le_trans h.1 hsz, fun k hk => by rw [ext_old (Nat.lt_of_lt_of_le hk h.1)]; exact h.2 k hk⟩
theorem Fe.le (h : Fe own B w) {k : Nat} (hk : own k ≠ 0) : B ≤ k := Nat.le_of_not_lt fun e => hk (h.2 k e)
theorem lb_up (hsz : w.heap.size ≤ w'.heap.size) (j i : Nat) : ∀ k, Lb own w i k → Lb (ext own w.heap.size j) w' i k := fun k e => ⟨Nat.lt_of_lt_of_le e.1 hsz, by rw [ext_old e.1]; exact e.2⟩
/-- What is nobody's stays, and stays nobody's. -/
def K0 (own : Nat → Nat) (w : World) (own' : Nat → Nat) (w' : World) : Prop := Mv w w' (fun k => own k ≠ 0) ∧ ∀ k, k < w.heap.size → own k = 0 → own' k = 0
theorem K0.refl (own : Nat → Nat) (w : World) : K0 own w own w := ⟨Mv.refl _ _, fun _ _ e => e⟩
theorem K0.trans {o1 o2 o3 : Nat → Nat} {w1 w2 w3 : World} (h : K0 o1 w1 o2 w2) (k : K0 o2 w2 o3 w3) : K0 o1 w1 o3 w3 :=
  ⟨h.1.trans k.1 (fun q hq e e' => e (h.2 q hq e')), fun q hq e => k.2 q (Nat.lt_of_lt_of_le hq h.1.size) (h.2 q hq e)⟩
theorem K0.cell {o1 o2 : Nat → Nat} {w1 w2 : World} (h : K0 o1 w1 o2 w2) {a : Addr} {x : Value} (hc : w1.cell? a = some x) (ho : o1 a.block = 0) : w2.cell? a = some x := h.1.cell hc (fun e => e ho)
theorem K0.fe {o1 o2 : Nat → Nat} {w1 w2 : World} (h : K0 o1 w1 o2 w2) (hF : Fe o1 B w1) : Fe o2 B w2 ∧ Below B w1 w2 :=
  ⟨⟨Nat.le_trans hF.1 h.1.size, fun k hk => h.2 k (Nat.lt_of_lt_of_le hk hF.1) (hF.2 k hk)⟩, h.1.below hF.1 (fun _ e => hF.le e)⟩
theorem K0.turn {w' : World} {j : Nat} (hm : Mv w w' (Lb own w j)) (hj : j ≠ 0) : K0 own w (ext own w.heap.size j) w' :=
  ⟨hm.mono (fun k _ e => by rw [e.2]; exact hj), fun k hk e => by rw [ext_old hk]; exact e⟩
theorem K0.later {w' : World} (hb : Below w.heap.size w w') : K0 own w (ext own w.heap.size 0) w' :=
  ⟨Mv.of_below hb _, fun k hk e => by rw [ext_old hk]; exact e⟩
theorem K0.new {k : Nat} (hk : w.heap.size ≤ k) : ext own w.heap.size 0 k = 0 := ext_new hk
/-- A call on one of the program's tables. -/
theorem Bw.turnC (h : Bw w gw M own G n C D L) (hi : i < n) {st : Ts} (hM : M ≤ M') (hp : TbS w' (Nw w (Lb own w (3 + 2 * i))) (G i).1 st M') (hm : Mv w w' (Lb own w (3 + 2 * i))) : Bw w' gw M' (ext own w.heap.size (3 + 2 * i)) G n (upd C i st) D L := by
  obtain ⟨h1, h2, h3⟩ := h
  have hsz := hm.size
  have up := fun j => lb_up (own := own) hsz (3 + 2 * i) j
  refine ⟨fun j hj => ?_, fun j hj => (Dt.frame (h2 j hj) hm (fun k e' => e'.ne (by omega))).mono (up _), (h3.frame hm (fun k e' => e'.ne (by omega)) (fun k e' => e'.ne (by omega))).sets (up _) (up _)⟩
  by_cases e : j = i
  · subst e
    rw [upd_at]
    refine hp.tight.mono (fun k e => ⟨e.2, ?_⟩)
    rcases e.1 with h | h
    · rw [ext_old h.1]; exact h.2
    · rw [ext_new h]
  · have := (((h1 j hj).frame hm (fun k e' => e'.ne (by omega))).mono (up _)).up hM
    unfold upd
    rw [if_neg e]
    exact this
/-- A call on one of the document's. -/
theorem Bw.turnD (h : Bw w gw M own G n C D L) (hi : i < n) {st : Ts} (hp : DtS w' (Nw w (Lb own w (4 + 2 * i))) (G i).2 st) (hm : Mv w w' (Lb own w (4 + 2 * i))) : Bw w' gw M (ext own w.heap.size (4 + 2 * i)) G n C (upd D i st) L := by
  obtain ⟨h1, h2, h3⟩ := h
  have hsz := hm.size
  have up := fun j => lb_up (own := own) hsz (4 + 2 * i) j
  refine ⟨fun j hj => ((h1 j hj).frame hm (fun k e' => e'.ne (by omega))).mono (up _), fun j hj => ?_, (h3.frame hm (fun k e' => e'.ne (by omega)) (fun k e' => e'.ne (by omega))).sets (up _) (up _)⟩
  by_cases e : j = i
  · subst e
    rw [upd_at]
    refine Dt.mono (Dt.tight hp) (fun k e => ⟨e.2, ?_⟩)
    rcases e.1 with h | h
    · rw [ext_old h.1]; exact h.2
    · rw [ext_new h]
  · have := Dt.mono (Dt.frame (h2 j hj) hm (fun k e' => e'.ne (by omega))) (up _)
    unfold upd
    rw [if_neg e]
    exact this
/-- New memory that is nobody's. -/
theorem Bw.later (h : Bw w gw M own G n C D L) (hb : Below w.heap.size w w') : Bw w' gw M (ext own w.heap.size 0) G n C D L := by
  obtain ⟨h1, h2, h3⟩ := h
  have up := fun j => lb_up (own := own) hb.size 0 j
  have hm := Mv.of_below hb (fun _ => False)
  exact ⟨fun j hj => ((h1 j hj).frame hm (fun _ _ e => e)).mono (up _), fun j hj => Dt.mono (Dt.frame (h2 j hj) hm (fun _ _ e => e)) (up _), (h3.frame hm (fun _ _ e => e) (fun _ _ e => e)).sets (up _) (up _)⟩
theorem Bw.bu (h : Bw w gw M own G n C D L) (hF : Fe own B w) : Bu w gw B M G n C D L := ⟨own, hF, h⟩
theorem Bu.later (h : Bu w gw B M G n C D L) (hb : Below w.heap.size w w') : Bu w' gw B M G n C D L := by
  obtain ⟨own, hF, h⟩ := h
  exact ⟨_, hF.ext hb.size 0, h.later hb⟩
/-- The law's own things are written anew; rows that were nobody's are held. -/
theorem Bw.turnW (h : Bw w gw M own G n C D L) {R : Nat → Prop} {n' : Nat} {L' : List Held} (hR : ∀ k, R k → own k = 0 ∨ w.heap.size ≤ k) (hw : Wl w' gw S' H' G n L') (hs : ∀ k, S' k → k < w'.heap.size ∧ (Lb own w 1 k ∨ w.heap.size ≤ k)) (hh : ∀ k, H' k → k < w'.heap.size ∧ ¬ S' k ∧ (Lb own w 2 k ∨ R k)) (hm : Mv w w' (fun k => Lb own w 1 k ∨ R k)) :
    ∃ own', Bw w' gw M own' G n C D L' ∧ ∀ k, k < w.heap.size → own k = 0 → ¬ R k → own' k = 0 := by
  classical
  have _ := n'
  obtain ⟨h1, h2, h3⟩ := h
  have hsz := hm.size
  obtain ⟨o', ho'⟩ : ∃ o' : Nat → Nat, o' = fun k => if S' k then 1 else if H' k then 2 else if k < w.heap.size ∧ 3 ≤ own k then own k else 0 := ⟨_, rfl⟩
  have up : ∀ j k, 3 ≤ j → Lb own w j k → Lb o' w' j k := fun j k hj e => by
    have n1 : ¬ S' k := fun e' => by
      rcases (hs k e').2 with a | a
      · have := a.2; have := e.2; omega
      · have := e.1; omega
    have n2 : ¬ H' k := fun e' => by
      rcases (hh k e').2.2 with a | a
      · have := a.2; have := e.2; omega
      · rcases hR k a with a | a
        · have := e.2; omega
        · have := e.1; omega
    refine ⟨Nat.lt_of_lt_of_le e.1 hsz, ?_⟩
    rw [ho']
    simp only [if_neg n1, if_neg n2]
    rw [if_pos ⟨e.1, by have := e.2; omega⟩]
    exact e.2
  have nt : ∀ j k, 3 ≤ j → Lb own w j k → ¬ (Lb own w 1 k ∨ R k) := fun j k hj e r => by
    rcases r with r | r
    · have := r.2; have := e.2; omega
    · rcases hR k r with a | a
      · have := e.2; omega
      · have := e.1; omega
  refine ⟨o', ⟨fun j hj => ((h1 j hj).frame hm (fun k => nt _ k (by omega))).mono (fun k => up _ k (by omega)), fun j hj => Dt.mono (Dt.frame (h2 j hj) hm (fun k => nt _ k (by omega))) (fun k => up _ k (by omega)), hw.sets (fun k e => ⟨(hs k e).1, by rw [ho']; simp [e]⟩) (fun k e => ⟨(hh k e).1, ?_⟩)⟩, fun k hk h0 hr => ?_⟩
  · have := (hh k e).2.1
    rw [ho']
    simp [e, this]
  · have n1 : ¬ S' k := fun e' => by
      rcases (hs k e').2 with a | a
      · have := a.2; omega
      · omega
    have n2 : ¬ H' k := fun e' => by
      rcases (hh k e').2.2 with a | a
      · have := a.2; omega
      · exact hr a
    rw [ho']
    simp only [if_neg n1, if_neg n2]
    rw [if_neg (by omega)]
theorem Bu.pair (h : Bw w gw M own G n C D L) (hi : i < n) : ∃ gl c, (∀ W, Below w.heap.size w W → W.cell? ⟨gw, 0, none⟩ = some (.slice (some ⟨gl, 0, none⟩) n c) ∧ W.cell? ⟨gl, i * 2, none⟩ = some (ptr (G i).1) ∧ W.cell? ⟨gl, i * 2 + 1, none⟩ = some (ptr (G i).2)) := by
  obtain ⟨-, -, vl, vi, vm, k1, -⟩ := h
  obtain ⟨gl, c, rfl, -, -⟩ := own_form k1.2.1 (by omega)
  refine ⟨gl, c, fun W hW => ?_⟩
  have k2 := k1.later hW
  have hr := k2.2.1
  have hl := hr.1
  refine ⟨k2.cell.1, ?_⟩
  rw [hr.cellAt (i * 2) (by omega), hr.cellAt (i * 2 + 1) (by omega)]
  exact plz_at G n i hi
/-- A pair more. -/
theorem Bw.push (h : Bw w gw M own G n C D L) {g r : Nat} {st : Ts} {T U : Nat → Prop} {vl' : Value} {W1 W2 : World} (hb : Below w.heap.size w w') (hp : TbS w' T g st M) (hd : DtS w' U r st) (hT : ∀ k, T k → w.heap.size ≤ k) (hU : ∀ k, U k → w.heap.size ≤ k) (hTU : ∀ k, T k → ¬ U k) (hF : Fe own B w)
    (hb1 : Below w'.heap.size w' W1) {vl vi vm : Value} (hwd : Wd w gw vl vi vm G n L) (hsv : Lb own w 1 gw ∧ In (Lb own w 1) vl ∧ In (Lb own w 1) vi ∧ In (Lb own w 1) vm) (hal : ∀ y ∈ L, Al w y.1 y.2 ∧ In (Lb own w 2) y.1)
    (ho : W2.ownsRow 0 64 2 vl' (n + 1) (plz G n ++ [ptr g, ptr r])) (hg : W1.grownBy W2 vl.ownBlock) (ha : vl'.ownBlock = vl.ownBlock ∨ vl'.ownBlock = some W1.heap.size) :
    Bu (W2.setCell ⟨gw, 0, none⟩ vl') gw B M (upd G n (g, r)) (n + 1) (upd C n st) (upd D n st) L ∧ Below B w (W2.setCell ⟨gw, 0, none⟩ vl') := by
  classical
  have sz := hb.size
  have sz1 := hb1.size
  obtain ⟨W, hW⟩ : ∃ W, W = W2.setCell ⟨gw, 0, none⟩ vl' := ⟨_, rfl⟩
  rw [← hW]
  have hbb := below_on hb hb1
  have hm1 : Mv w W (fun k => k = gw ∨ vl.ownBlock = some k) := hW ▸ ((Mv.of_below hbb _).grown hg (fun q _ e => .inr e)).set (g := gw) (.inl rfl) 0 vl'
  have hm2 : Mv w' W (fun k => k = gw ∨ vl.ownBlock = some k) := hW ▸ ((Mv.of_below hb1 _).grown hg (fun q _ e => .inr e)).set (g := gw) (.inl rfl) 0 vl'
  have hsz := hm1.size
  have hsz2 := hm2.size
  have hlt := hwd.lt
  have hvl : ∀ q, vl.ownBlock = some q → q < w.heap.size ∧ own q = 1 := fun q e => hsv.2.1 q e
  have hvlb : ∀ q, vl'.ownBlock = some q → vl.ownBlock = some q ∨ w'.heap.size ≤ q := fun q e => by
    rcases ha with h | h
    · exact .inl (h ▸ e)
    · rw [e] at h; have := Option.some.inj h; exact .inr (by omega)
  have hvg : vl'.ownBlock ≠ some gw := fun e => by
    rcases hvlb gw e with h | h
    · exact hwd.2.2.2.2.1.1 h
    · omega
  obtain ⟨o', ho'⟩ : ∃ o' : Nat → Nat, o' = fun k => if k < w.heap.size then own k else if vl'.ownBlock = some k then 1 else if T k ∧ k < w'.heap.size then 3 + 2 * n else if U k ∧ k < w'.heap.size then 4 + 2 * n else 0 := ⟨_, rfl⟩
  have hold : ∀ k, k < w.heap.size → o' k = own k := fun k hk => by rw [ho']; simp only [if_pos hk]
  have up : ∀ j k, Lb own w j k → Lb o' W j k := fun j k e => ⟨Nat.lt_of_lt_of_le e.1 hsz, by rw [hold k e.1]; exact e.2⟩
  have ng : ∀ j k, j ≠ 1 → Lb own w j k → ¬ (k = gw ∨ vl.ownBlock = some k) := fun j k hj e r => by
    rcases r with rfl | r
    · have := e.2; have := hsv.1.2; omega
    · have := e.2; have := (hvl k r).2; omega
  have nn : ∀ k, w.heap.size ≤ k → ¬ (k = gw ∨ vl.ownBlock = some k) := fun k hk r => by
    rcases r with rfl | r
    · omega
    · have := (hvl k r).1; omega
  obtain ⟨h1, h2, h3⟩ := h
  refine ⟨⟨o', ⟨Nat.le_trans hF.1 hsz, fun k hk => by rw [hold k (Nat.lt_of_lt_of_le hk hF.1)]; exact hF.2 k hk⟩, fun j hj => ?_, fun j hj => ?_, ?_⟩, hm1.below hF.1 (fun k e => ?_)⟩
  · by_cases e : j = n
    · subst e
      rw [upd_at, upd_at]
      refine (TbS.frame hp.tight hm2 (fun k e => nn k (hT k e.1))).mono (fun k e => ⟨Nat.lt_of_lt_of_le e.2 hsz2, ?_⟩)
      have h1 := hT k e.1
      have h2 : ¬ vl'.ownBlock = some k := fun e' => by
        rcases hvlb k e' with h | h
        · have := (hvl k h).1; omega
        · have := e.2; omega
      rw [ho']
      simp only [if_neg (show ¬ k < w.heap.size by omega), if_neg h2]
      rw [if_pos e]
    · have := ((h1 j (by omega)).frame hm1 (fun k => ng _ k (by omega))).mono (up _)
      unfold upd
      rw [if_neg e, if_neg e]
      exact this
  · by_cases e : j = n
    · subst e
      rw [upd_at, upd_at]
      refine Dt.mono (Dt.frame (Dt.tight hd) hm2 (fun k e => nn k (hU k e.1))) (fun k e => ⟨Nat.lt_of_lt_of_le e.2 hsz2, ?_⟩)
      have h1 := hU k e.1
      have h2 : ¬ vl'.ownBlock = some k := fun e' => by
        rcases hvlb k e' with h | h
        · have := (hvl k h).1; omega
        · have := e.2; omega
      have h3 : ¬ (T k ∧ k < w'.heap.size) := fun t => hTU k t.1 e.1
      rw [ho']
      simp only [if_neg (show ¬ k < w.heap.size by omega), if_neg h2, if_neg h3]
      rw [if_pos e]
    · have := Dt.mono (Dt.frame (h2 j (by omega)) hm1 (fun k => ng _ k (by omega))) (up _)
      unfold upd
      rw [if_neg e, if_neg e]
      exact this
  · obtain ⟨a1, a2, a3, a4, a5, a6, a7, a8⟩ := hwd
    have hg2 : W2.heap[gw]? = some (.cells #[vl, vi, vm] 29 (0, 0)) := (hg.block gw (by omega) (fun e => a5.1 e.symm)).trans ((hbb.block gw hlt).trans a1)
    have nv : ∀ v : Value, v.ownBlock ≠ some gw → Ap vl v → ∀ q, v.ownBlock = some q → ¬ (q = gw ∨ vl.ownBlock = some q) := fun v h1 h2 q e r => by
      rcases r with rfl | r
      · exact h1 e
      · exact h2 q r e
    have av : ∀ v : Value, Ap vl v → (∀ q, v.ownBlock = some q → q < w.heap.size) → Ap vl' v := fun v h1 h2 q e1 e2 => by
      rcases hvlb q e1 with h | h
      · exact h1 q h e2
      · have := h2 q e2; omega
    refine ⟨vl', vi, vm, ⟨?_, ?_, hm1.own a3 (nv vi a5.2.1 a6), hm1.own a4 (nv vm a5.2.2 a7), ⟨hvg, a5.2⟩, av vi a6 (fun q e => (a3.lt q e).2), av vm a7 (fun q e => (a4.lt q e).2), a8⟩, ⟨up _ _ hsv.1, fun q e => ?_, fun q e => up _ _ (hsv.2.2.1 q e), fun q e => up _ _ (hsv.2.2.2 q e)⟩, fun y hy => ⟨(hal y hy).1.frame hm1 (fun q e => ng 2 q (by omega) ((hal y hy).2 q e)), fun q e => up _ _ ((hal y hy).2 q e)⟩⟩
    · rw [hW]
      exact heap_setCell_same W2 gw 0 _ 29 vl' hg2
    · rw [plz_push, hW]
      exact own_set ho hvg
    · rcases hvlb q e with h | h
      · exact up _ _ (hsv.2.1 q h)
      · refine ⟨?_, ?_⟩
        · have := (ho.lt q e).2
          rw [hW]; simpa using this
        · rw [ho']
          simp only [if_neg (show ¬ q < w.heap.size by omega), if_pos e]
  · rcases e with rfl | e
    · exact hF.le (by have := hsv.1.2; omega)
    · exact hF.le (by have := (hvl k e).2; omega)
end
end Go.Proofs.Ytlnjphfkinajdaa
