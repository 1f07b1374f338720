/-
  World: a world in memory: each block is labelled by whose it is.
-/
import Derived.Test.YtiolaenkfhcajaaGreatWKind
import Derived.Test.YtiolaenkfhcajaaGreatIGive
namespace Go.Proofs.YtiolaenkfhcajaaGreat
open Go.RowKit
set_option maxRecDepth 100000
abbrev Ts := List (Int × Int) × List (List Int)
def TbS (w : World) (S : Nat → Prop) (g : Nat) (s : Ts) (M : Nat) : Prop := ∃ n, n ≤ M ∧ Tb w S g n s.1 s.2
section
variable {w w' : World} {S T : Nat → Prop} {g M M' : Nat} {s : Ts}
theorem TbS.mono (h : TbS w S g s M) (hs : ∀ k, S k → T k) : TbS w T g s M := by
  obtain ⟨n, hn, h⟩ := h
  exact ⟨n, hn, h.mono hs⟩
theorem TbS.frame (h : TbS w S g s M) (hm : Mv w w' T) (hs : ∀ k, S k → ¬ T k) : TbS w' S g s M := by
  obtain ⟨n, hn, h⟩ := h
  exact ⟨n, hn, h.frame hm hs⟩
theorem TbS.up (h : TbS w S g s M) (hM : M ≤ M') : TbS w S g s M' := by
  obtain ⟨n, hn, h⟩ := h
  exact ⟨n, by omega, h⟩
theorem TbS.tight (h : TbS w S g s M) : TbS w (fun k => S k ∧ k < w.heap.size) g s M := by
  obtain ⟨n, hn, h⟩ := h
  exact ⟨n, hn, h.tight⟩
end
theorem Mq.mono {w : World} {gm n n' : Nat} {q : Nat → Option Nat} (h : Mq w gm n q) (hn : n ≤ n') : Mq w gm n' q := by
  obtain ⟨D, h1, h2⟩ := h
  exact ⟨D, h1.mono hn, h2⟩
def Lb (own : Nat → Nat) (w : World) (i : Nat) : Nat → Prop := fun k => k < w.heap.size ∧ own k = i
/-- What is new since w gets the label L. -/
def rel (own : Nat → Nat) (w : World) (L : Nat) : Nat → Nat := fun k => if k < w.heap.size then own k else L
theorem rel_old {own : Nat → Nat} {w : World} {L k : Nat} (h : k < w.heap.size) : rel own w L k = own k := if_pos h
theorem rel_new {own : Nat → Nat} {w : World} {L k : Nat} (h : w.heap.size ≤ k) : rel own w L k = L := if_neg (by omega)
theorem Lb.rel {own : Nat → Nat} {w w' : World} {L i k : Nat} (h : Lb own w i k) (hs : w.heap.size ≤ w'.heap.size) : Lb (rel own w L) w' i k := ⟨by have := h.1; omega, (rel_old h.1).trans h.2⟩
/-- Kinds, in blocks that nobody writes. -/
def Kf (w : World) (S : Nat → Prop) (v : Value) (ks : List Kind) : Prop := ∀ w', (∀ k, S k → w'.heap[k]? = w.heap[k]?) → Kr w' v ks
theorem Kf.kr {w : World} {S : Nat → Prop} {v : Value} {ks : List Kind} (h : Kf w S v ks) : Kr w v ks := h w (fun _ _ => rfl)
theorem Kf.next {w w' : World} {S S' : Nat → Prop} {v : Value} {ks : List Kind} (h : Kf w S v ks) (h1 : ∀ k, S k → w'.heap[k]? = w.heap[k]?) (h2 : ∀ k, S k → S' k) : Kf w' S' v ks := fun w2 hw => h w2 (fun k hk => (hw k (h2 k hk)).trans (h1 k hk))
/-- A world but for what is labelled L: 1 its block, 2 its kinds, 3 its pool, 4 the map of sets, 5 the map of tables, 10 + s the table of the set s. -/
def Wx (L : Nat) (w : World) (own : Nat → Nat) (gw : Nat) (vk : Value) (gp gm gt M : Nat) (ks : List Kind) (gs fr : List Nat) (f : Int × Int → Option Nat) (q : Nat → Option Nat) (T : Nat → Ts) : Prop :=
  (own gw = 1 ∧ own gm = 4 ∧ own gt = 5) ∧ (gm < w.heap.size ∧ gt < w.heap.size) ∧ Wc w gw vk gp gm gt ∧ Kf w (Lb own w 2) vk ks ∧ (L ≠ 3 → Pl w (Lb own w 3) gp 200 gs fr) ∧ (L ≠ 4 → Mp w gm M f) ∧ (L ≠ 5 → Mq w gt M q) ∧
  ∀ s g, q s = some g → L ≠ 10 + s → TbS w (Lb own w (10 + s)) g (T s) M
section
variable {L : Nat} {w w' : World} {own : Nat → Nat} {gw gp gm gt M M' : Nat} {vk : Value} {ks : List Kind} {gs fr gs' fr' : List Nat} {f f' : Int × Int → Option Nat} {q q' : Nat → Option Nat} {T T' : Nat → Ts}
theorem Wx.up (h : Wx L w own gw vk gp gm gt M ks gs fr f q T) (hM : M ≤ M') : Wx L w own gw vk gp gm gt M' ks gs fr f q T := by
  obtain ⟨h1, hlt, h2, h3, h4, h5, h6, h7⟩ := h
  exact ⟨h1, hlt, h2, h3, h4, fun e => (h5 e).mono hM, fun e => (h6 e).mono hM, fun s g hg e => (h7 s g hg e).up hM⟩
/-- Where only what is labelled L, or nobody's, is written, the rest stays. -/
theorem Wx.frame {S : Nat → Prop} (h : Wx 0 w own gw vk gp gm gt M ks gs fr f q T) (hL : L = 0 ∨ 3 ≤ L) (hm : Mv w w' S) (hS : ∀ k, k < w.heap.size → S k → own k = L ∨ own k = 0) : Wx L w' (rel own w L) gw vk gp gm gt M ks gs fr f q T := by
  obtain ⟨⟨a1, a2, a3⟩, ⟨b1, b2⟩, h2, h3, h4, h5, h6, h7⟩ := h
  have hsz := hm.size
  have hw : gw < w.heap.size := lt_of_block h2
  refine ⟨⟨(rel_old hw).trans a1, (rel_old b1).trans a2, (rel_old b2).trans a3⟩, ⟨by omega, by omega⟩, hm.at h2 (fun e => by have := hS gw hw e; omega), h3.next (fun k hk => hm.2.2.2.2 k hk.1 (fun e => by have := hS k hk.1 e; have := hk.2; omega)) (fun k hk => hk.rel hsz), fun e => ?_, fun e => ?_, fun e => ?_, fun s g hg e => ?_⟩
  · exact ((h4 (by omega)).frame hm (fun k hk e' => by have := hS k hk.1 e'; have := hk.2; omega)).mono (fun k hk => hk.rel hsz)
  · exact (h5 (by omega)).same (hm.2.2.2.2 gm b1 (fun e' => by have := hS gm b1 e'; omega))
  · exact (h6 (by omega)).same (hm.2.2.2.2 gt b2 (fun e' => by have := hS gt b2 e'; omega))
  · exact ((h7 s g hg (by omega)).frame hm (fun k hk e' => by have := hS k hk.1 e'; have := hk.2; omega)).mono (fun k hk => hk.rel hsz)
theorem Wx.later (h : Wx 0 w own gw vk gp gm gt M ks gs fr f q T) (hb : Below w.heap.size w w') : Wx 0 w' (rel own w 0) gw vk gp gm gt M ks gs fr f q T := h.frame (.inl rfl) (Mv.of_below hb (fun _ => False)) (fun _ _ e => e.elim)
/-- The blocks of L and what is new. -/
theorem Lb.of_new {k : Nat} (h : Nw w (Lb own w L) k) (hk : k < w'.heap.size) : Lb (Go.Proofs.YtiolaenkfhcajaaGreat.rel own w L) w' L k := by
  rcases h with h | h
  · exact ⟨hk, (rel_old h.1).trans h.2⟩
  · exact ⟨hk, rel_new h⟩
/-- A table turns. -/
theorem Wx.table {s g : Nat} {t : Ts} (h : Wx 0 w own gw vk gp gm gt M ks gs fr f q T) (hm : Mv w w' (Lb own w (10 + s))) (hg : q s = some g) (ht : TbS w' (Nw w (Lb own w (10 + s))) g t M') (hM : M ≤ M') : Wx 0 w' (rel own w (10 + s)) gw vk gp gm gt M' ks gs fr f q (fun x => if x = s then t else T x) := by
  have k := (h.frame (.inr (by omega)) hm (fun k _ e => .inl e.2)).up hM
  obtain ⟨h1, hlt, h2, h3, h4, h5, h6, h7⟩ := k
  refine ⟨h1, hlt, h2, h3, fun _ => h4 (by omega), fun _ => h5 (by omega), fun _ => h6 (by omega), fun x g' hx _ => ?_⟩
  by_cases e : x = s
  · subst e
    rw [hg] at hx
    obtain rfl := Option.some.inj hx
    simp only [if_true]
    exact ht.tight.mono (fun k hk => Lb.of_new hk.1 hk.2)
  · simp only [if_neg e]
    exact h7 x g' hx (by omega)
/-- The pool turns. -/
theorem Wx.pool (h : Wx 0 w own gw vk gp gm gt M ks gs fr f q T) (hm : Mv w w' (Lb own w 3)) (ht : Pl w' (Lb (rel own w 3) w' 3) gp 200 gs' fr') : Wx 0 w' (rel own w 3) gw vk gp gm gt M ks gs' fr' f q T := by
  have k := h.frame (L := 3) (.inr (by omega)) hm (fun k _ e => .inl e.2)
  obtain ⟨h1, hlt, h2, h3, h4, h5, h6, h7⟩ := k
  exact ⟨h1, hlt, h2, h3, fun _ => ht, fun _ => h5 (by omega), fun _ => h6 (by omega), fun x g' hx _ => h7 x g' hx (by omega)⟩
theorem mv_turned {g : Nat} (h : w.mapTurned w' g) : Mv w w' (fun k => k = g) := by
  exact (Mv.refl w (fun k => k = g)).grown h.grown (fun k _ e => (Option.some.inj e).symm)
/-- The map of sets turns. -/
theorem Wx.sets (h : Wx 0 w own gw vk gp gm gt M ks gs fr f q T) (hm : w.mapTurned w' gm) (hf : Mp w' gm M' f') (hM : M ≤ M') : Wx 0 w' (rel own w 4) gw vk gp gm gt M' ks gs fr f' q T := by
  have k := (h.frame (L := 4) (.inr (by omega)) (mv_turned hm) (fun k _ e => .inl (by rw [e]; exact h.1.2.1))).up hM
  obtain ⟨h1, hlt, h2, h3, h4, h5, h6, h7⟩ := k
  exact ⟨h1, hlt, h2, h3, fun _ => h4 (by omega), fun _ => hf, fun _ => h6 (by omega), fun x g' hx _ => h7 x g' hx (by omega)⟩
/-- The map of tables turns: nothing comes to it. -/
theorem Wx.less (h : Wx 0 w own gw vk gp gm gt M ks gs fr f q T) (hm : w.mapTurned w' gt) (hf : Mq w' gt M' q') (hM : M ≤ M') (hq : ∀ s g, q' s = some g → q s = some g) : Wx 0 w' (rel own w 5) gw vk gp gm gt M' ks gs fr f q' T := by
  have k := (h.frame (L := 5) (.inr (by omega)) (mv_turned hm) (fun k _ e => .inl (by rw [e]; exact h.1.2.2))).up hM
  obtain ⟨h1, hlt, h2, h3, h4, h5, h6, h7⟩ := k
  exact ⟨h1, hlt, h2, h3, fun _ => h4 (by omega), fun _ => h5 (by omega), fun _ => hf, fun x g' hx _ => h7 x g' (hq x g' hx) (by omega)⟩
/-- A table comes to it, whose blocks are new since w0. -/
theorem Wx.more {w0 : World} {s g : Nat} {t : Ts} (h : Wx 0 w0 own gw vk gp gm gt M ks gs fr f q T) (hb : Below w0.heap.size w0 w) (ht : TbS w (fun k => w0.heap.size ≤ k) g t M') (hM : M ≤ M') (hs : q s = none) (hm : w.mapTurned w' gt) (hf : Mq w' gt M' (fun x => if x = s then some g else q x)) :
    Wx 0 w' (rel (rel own w0 (10 + s)) w 5) gw vk gp gm gt M' ks gs fr f (fun x => if x = s then some g else q x) (fun x => if x = s then t else T x) := by
  have k0 := h.frame (L := 10 + s) (.inr (by omega)) (Mv.of_below hb (fun _ => False)) (fun _ _ e => e.elim)
  have k : Wx 0 w (rel own w0 (10 + s)) gw vk gp gm gt M ks gs fr f q T := by
    obtain ⟨h1, hlt, h2, h3, h4, h5, h6, h7⟩ := k0
    refine ⟨h1, hlt, h2, h3, fun _ => h4 (by omega), fun _ => h5 (by omega), fun _ => h6 (by omega), fun x g' hx _ => h7 x g' hx (fun e => ?_)⟩
    obtain rfl : s = x := by omega
    rw [hs] at hx
    cases hx
  have k2 := (k.frame (L := 5) (.inr (by omega)) (mv_turned hm) (fun k' _ e => .inl (by rw [e]; exact k.1.2.2))).up hM
  obtain ⟨h1, hlt, h2, h3, h4, h5, h6, h7⟩ := k2
  refine ⟨h1, hlt, h2, h3, fun _ => h4 (by omega), fun _ => h5 (by omega), fun _ => hf, fun x g' hx _ => ?_⟩
  by_cases e : x = s
  · subst e
    simp only [if_true, Option.some.injEq] at hx ⊢
    subst hx
    have hgt : gt < w0.heap.size := h.2.1.2
    refine ((ht.tight.frame (mv_turned hm) (fun k' hk e' => ?_))).mono (fun k' hk => ⟨Nat.lt_of_lt_of_le hk.2 (mv_turned hm).size, ?_⟩)
    · have := hk.1
      subst e'
      omega
    · rw [rel_old hk.2, rel_new hk.1]
  · simp only [if_neg e] at hx ⊢
    exact h7 x g' hx (by omega)
end
end Go.Proofs.YtiolaenkfhcajaaGreat
