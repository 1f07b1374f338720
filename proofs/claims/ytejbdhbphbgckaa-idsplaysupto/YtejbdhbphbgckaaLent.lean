/-
  Numbers that are lent.
-/
import Derived.Test.YtejbdhbphbgckaaSame
import Derived.Test.YtejbdhbphbgckaaDocFrom
import Derived.Laws.CopyOwn
namespace Go.Proofs.Ytejbdhbphbgckaa
open Go.RowKit
def zc (l : List Int) : List Value := l.map fun z => Value.int .i64 z
theorem zc_len (l : List Int) : (zc l).length = l.length := by simp [zc]
theorem zc_append (a b : List Int) : zc (a ++ b) = zc a ++ zc b := by simp [zc]
theorem zc_one (l : List Int) : ∀ u ∈ zc l, u.oneCell' = true := by
  intro u hu
  simp only [zc, List.mem_map] at hu
  obtain ⟨z, _, rfl⟩ := hu
  rfl
theorem own_block {w : World} {base e g n : Nat} {xs : List Value} (h : w.ownsRow base e 1 (.slice (some ⟨g, 0, none⟩) n n) n xs) : w.heap[g]? = some (.cells xs.toArray e (0, 0)) ∧ base ≤ g := by
  rcases h.2 with ⟨h', _⟩ | ⟨g', cap', cur, h', hb, hg, _, _, hs, htake⟩
  · simp at h'
  · simp only [Value.slice.injEq, Option.some.injEq, Addr.mk.injEq, and_true, true_and] at h'
    obtain ⟨rfl, rfl⟩ := h'
    have : cur = xs.toArray := by
      rw [← htake, List.take_of_length_le (by simp; omega)]
    exact ⟨this ▸ hg, hb⟩
theorem made_ints (n : Nat) : (madeCells #[Value.int IntKind.i64 0] n).toList = zc (List.replicate n 0) := by
  rw [toList_madeCells_one]
  simp [zc]
/-- A block of numbers. -/
def Rz (w : World) (g : Nat) (l : List Int) : Prop := w.heap[g]? = some (.cells (zc l).toArray 3 (0, 0))
theorem Rz.lt {w : World} {g : Nat} {l : List Int} (h : Rz w g l) : g < w.heap.size := by
  unfold Rz at h
  exact (Array.getElem?_eq_some_iff.1 h).1
theorem Rz.on {w w' : World} {g B : Nat} {l : List Int} (h : Rz w g l) (hb : Below B w w') (hg : g < B) : Rz w' g l := (hb.block g hg).trans h
theorem Rz.cell {w : World} {g : Nat} {l : List Int} (h : Rz w g l) (j : Nat) (hj : j < l.length) : w.cell? ⟨g, j, none⟩ = some (.int .i64 l[j]) := by
  unfold Rz at h
  simp [World.cell?, h, zc, hj]
theorem Rz.is {w : World} {g : Nat} {l r : List Int} {c : Nat} (h : Rz w g (l ++ r)) (h1 : l.length ≤ c) (h2 : c ≤ maxLen) : Is w (.slice (some ⟨g, 0, none⟩) l.length c) l :=
  ⟨_, c, rfl, h1, h2, fun j hj => ⟨g, 0, rfl, by rw [Nat.zero_add, h.cell j (by simp; omega), List.getElem_append_left hj]⟩⟩
theorem splice_lent (l : List Int) : splice (zc (List.replicate (l.length + 8) 0)) 0 (zc l) = zc (l ++ List.replicate 8 0) := by
  unfold splice
  rw [zc_append]
  simp [zc]
theorem Is.src {w w' : World} {ao : Option Addr} {l : List Int} {c : Nat} (h : Is w (.slice ao l.length c) l) (hb : Below w.heap.size w w') : 0 < l.length → ∃ ad, ao = some ad ∧ ∀ j v, (zc l)[j]? = some v → w'.cell? (ad.add j) = some v := by
  intro h0
  obtain ⟨ao', c', e, -, -, h3⟩ := h.on hb
  simp only [Value.slice.injEq] at e
  obtain ⟨rfl, -, -⟩ := e
  obtain ⟨g, o, rfl, _⟩ := h3 0 h0
  refine ⟨_, rfl, fun j v hv => ?_⟩
  have hj : j < l.length := by
    have := (List.getElem?_eq_some_iff.1 hv).1
    simpa [zc] using this
  obtain ⟨g', o', e, hc⟩ := h3 j hj
  simp only [Option.some.injEq, Addr.mk.injEq, and_true] at e
  obtain ⟨rfl, rfl⟩ := e
  have : v = .int .i64 l[j] := by simpa [zc, hj] using hv.symm
  subst this
  rw [show (⟨g, o, none⟩ : Addr).add j = ⟨g, o + j, none⟩ by simp [Addr.add]]
  exact hc
theorem wpList_copy_keep {P : Program} {w : World} {ops : Array Oper} {rest : List Oper} {o : Oper} {a : Act} {Q : Exit → Act → World → Prop} (hgd : o.guard = none) (d s : Operand) (dT sT : TypeId)
    (ho : o.op = .call { callee := .builtin .copy, args := #[d, s], argTypes := #[dT, sT] }) (elem : TypeId) (hu : P.underlying dT = some (.slice elem)) (hsz : (P.info? elem).map (·.size) = some 1)
    (dp sp : Option Addr) (dLen dCap sLen sCap : Nat) (hd : a.eval d = .slice dp dLen dCap) (hs : a.eval s = .slice sp sLen sCap)
    (g off : Nat) (cur : List Value) (t : TypeId) (hg : w.heap[g]? = some (.cells cur.toArray t (0, 0))) (cs : List Value) (hn : cs.length = Nat.min sLen dLen)
    (hpos : 0 < cs.length → dp = some ⟨g, off, none⟩ ∧ ∃ ad, sp = some ad ∧ ∀ j v, cs[j]? = some v → w.cell? (ad.add j) = some v)
    (hfit : off + cs.length ≤ cur.length) (h1 : ∀ v ∈ cs, v.oneCell' = true)
    (h : ∀ w', w'.heap[g]? = some (.cells (splice cur off cs).toArray t (0, 0)) → w.grownBy w' (some g) → wpList P ops Q rest (a.put o.dst (goInt cs.length)) w') :
    wpList P ops Q (o :: rest) a w := by
  by_cases h0 : cs.length = 0
  · obtain rfl : cs = [] := List.eq_nil_of_length_eq_zero h0
    refine wpList_copy_nothing hgd d s dT sT ho elem hu hsz dp sp dLen dCap sLen sCap hd hs (by simpa using hn.symm) ?_
    exact h w (by simpa [splice] using hg) ⟨rfl, rfl, rfl, Nat.le_refl _, fun _ _ _ => rfl⟩
  · obtain ⟨rfl, ad, rfl, hsrc⟩ := hpos (by omega)
    refine wpList_copy_own hgd d s dT sT ho elem hu hsz g off dLen dCap ad sLen sCap hd hs cur.toArray t hg cs hn hsrc (by simpa using hfit) h1 ?_
    exact h _ (by simpa [splice] using setRow_heap w g _ _ t _ hg) ⟨rfl, rfl, rfl, by simp [World.setRow], fun k _ hk => setRow_other w g k _ (fun e => hk (by rw [e]))⟩
/-- What from has about it: the box of its result, two blocks that it lent. -/
def Ls (w W : World) (ga gb : Nat) (A B : List Int) : Prop :=
  Below w.heap.size w W ∧ W.heap[w.heap.size]? = some (.cells #[.pointer none, .pointer none] 28 (0, 0)) ∧ Rz W ga A ∧ Rz W gb B ∧ w.heap.size < ga ∧ ga < gb
theorem Ls.later {w W W' : World} {ga gb : Nat} {A B : List Int} (h : Ls w W ga gb A B) (hb : Below W.heap.size W W') : Ls w W' ga gb A B := by
  obtain ⟨a1, a2, a3, a4, a5, a6⟩ := h
  exact ⟨below_on a1 hb, (hb.block _ (Array.getElem?_eq_some_iff.1 a2).1).trans a2, a3.on hb a3.lt, a4.on hb a4.lt, a5, a6⟩
theorem Ls.first {w W W' : World} {ga gb : Nat} {A A' B : List Int} (h : Ls w W ga gb A B) (hr : Rz W' ga A') (hg : W.grownBy W' (some ga)) : Ls w W' ga gb A' B := by
  obtain ⟨a1, a2, a3, a4, a5, a6⟩ := h
  exact ⟨a1.grown hg a1.size (fun k e => by cases e; omega), (hg.block _ (Array.getElem?_eq_some_iff.1 a2).1 (fun e => by simp at e; omega)).trans a2, hr, (hg.block _ a4.lt (fun e => by simp at e; omega)).trans a4, a5, a6⟩
theorem Ls.second {w W W' : World} {ga gb : Nat} {A B B' : List Int} (h : Ls w W ga gb A B) (hr : Rz W' gb B') (hg : W.grownBy W' (some gb)) : Ls w W' ga gb A B' := by
  obtain ⟨a1, a2, a3, a4, a5, a6⟩ := h
  exact ⟨a1.grown hg a1.size (fun k e => by cases e; omega), (hg.block _ (Array.getElem?_eq_some_iff.1 a2).1 (fun e => by simp at e; omega)).trans a2, (hg.block _ a3.lt (fun e => by simp at e; omega)).trans a3, hr, a5, a6⟩
theorem size3 : (Try.prog.info? 3).map (·.size) = some 1 := by kernel_rfl
end Go.Proofs.Ytejbdhbphbgckaa
