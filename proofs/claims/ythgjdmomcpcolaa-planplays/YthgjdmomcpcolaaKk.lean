/-
  Plan's law: the book, told by how many rows it has and whose blocks are its own.
-/
import Derived.Test.YthgjdmomcpcolaaKg
import Derived.Test.YthgjdmomcpcolaaKh
import Derived.Test.YthgjdmomcpcolaaKi
import Derived.Test.YthgjdmomcpcolaaKj
import Derived.Test.YthgjdmomcpcolaaDh
import Derived.Test.YthgjdmomcpcolaaSh
namespace Go.Proofs.Ythgjdmomcpcolaa
open Go.RowKit
set_option maxRecDepth 100000
/-- The book: n, m rows and lists are done with, n', m' are there. -/
def Bm (W : World) (gb : Nat) (S : Nat → Prop) (n m n' m' : Nat) : Prop :=
  ∃ own vl vm vo vn ls ms os ns, Bl W gb own vl vm vo vn ls ms os ns n m (fun q => decide (n ≤ q)) (fun q => decide (m ≤ q)) ∧ ms.length = ls.length ∧ ns.length = os.length ∧ ls.length = n' ∧ os.length = m' ∧ n ≤ n' ∧ m ≤ m' ∧ (∀ q (h : q < ls.length), n ≤ q → slen ls[q] ≤ 1000) ∧ (∀ q (h : q < os.length), m ≤ q → slen os[q] ≤ 1000) ∧ ∀ k, own k ≠ 0 → S k
section
variable {W : World} {gb : Nat} {S S' T : Nat → Prop} {n m n' m' : Nat}
theorem Bm.mono (h : Bm W gb S n m n' m') (hs : ∀ k, k < W.heap.size → S k → S' k) : Bm W gb S' n m n' m' := by
  obtain ⟨own, vl, vm, vo, vn, ls, ms, os, ns, h1, h2, h3, h4, h5, h6, h7, h8, h9, h10⟩ := h
  exact ⟨own, vl, vm, vo, vn, ls, ms, os, ns, h1, h2, h3, h4, h5, h6, h7, h8, h9, fun k e => hs k (h1.lt k e) (h10 k e)⟩
theorem Bm.frame {W' : World} (h : Bm W gb S n m n' m') (hm : Mv W W' T) (hT : ∀ k, S k → ¬ T k) : Bm W' gb S n m n' m' := by
  obtain ⟨own, vl, vm, vo, vn, ls, ms, os, ns, h1, h2, h3, h4, h5, h6, h7, h8, h9, h10⟩ := h
  exact ⟨own, vl, vm, vo, vn, ls, ms, os, ns, h1.frame hm (fun k e => hT k (h10 k e)), h2, h3, h4, h5, h6, h7, h8, h9, h10⟩
theorem Bm.later {W' : World} (h : Bm W gb S n m n' m') (hb : Below W.heap.size W W') : Bm W' gb S n m n' m' := h.frame (T := fun _ => False) (Mv.of_below hb _) (fun _ _ => id)
/-- An empty book. -/
theorem Bm.new (W : World) : Bm (W.alloc (.cells #[.slice none 0 0, .slice none 0 0, .slice none 0 0, .slice none 0 0, .int .i64 0, .int .i64 0] 35)) W.heap.size (fun k => k = W.heap.size) 0 0 0 0 := by
  refine ⟨fun k => if k = W.heap.size then 1 else 0, .slice none 0 0, .slice none 0 0, .slice none 0 0, .slice none 0 0, [], [], [], [], ?_, rfl, rfl, rfl, rfl, Nat.le_refl _, Nat.le_refl _, fun q h => by simp at h, fun q h => by simp at h, fun k e => ?_⟩
  · exact {
      cells := heap_alloc_new W _
      gb1 := by simp
      l := World.ownsRow_nil _ _ _ _
      l2 := In.nil _
      m := Rw.nil _ _
      m3 := In.nil _
      o := World.ownsRow_nil _ _ _ _
      o4 := In.nil _
      n := Rw.nil _ _
      n5 := In.nil _
      rows := fun q h => by simp at h
      orows := fun q h => by simp at h
      lt := fun k e => by
        by_cases c : k = W.heap.size
        · rw [alloc_size]; omega
        · simp [c] at e }
  · by_cases c : k = W.heap.size
    · exact c
    · simp [c] at e
theorem Bm.keeps (h : Bm W gb S n m n' m') {v : Value} {rs : List Value} {sts : List (List Nat)} (hs : Ss W 0 v rs sts) (hTv : In T v) (hTr : ∀ r ∈ rs, In T r) (hT : ∀ k, T k → ¬ S k) (hn : rs.length ≤ 1000) (hst : ∀ st ∈ sts, st.length ≤ 1000) (hn' : n' ≤ 50000) (hm' : m' ≤ 50000) :
    Calls Try.prog 30 #[.pointer (some ⟨gb, 0, none⟩), v] W fun e X => e = .returned (.tuple #[]) ∧ Bm X gb (fun k => S k ∨ T k ∨ W.heap.size ≤ k) n m (n' + rs.length) (m' + 1) ∧ Mv W X (fun k => S k ∨ T k) := by
  obtain ⟨own, vl, vm, vo, vn, ls, ms, os, ns, h1, h2, h3, h4, h5, h6, h7, h8, h9, h10⟩ := h
  have hT0 : ∀ k, T k → own k = 0 := fun k e => Classical.byContradiction fun c => hT k e (h10 k c)
  refine (keeps_any h1 h2 h3 (fun q hq => decide_eq_true (by omega)) (decide_eq_true (by omega)) (by omega) (by omega) hs hTv hTr hT0 hn hst).mono ?_
  rintro e X ⟨rfl, own', vl', vm', vo', vn', ms', ns', k1, k2, k3, k4, k5⟩
  have hsl : slen v ≤ 1000 := by
    obtain ⟨a, c, rfl⟩ := own_len hs.1
    exact hn
  refine ⟨rfl, ⟨own', vl', vm', vo', vn', ls ++ rs, ms', os ++ [v], ns', k1, k2, k3, by simp [h4], by simp [h5], by omega, by omega, fun q hq hnq => ?_, fun q hq hnq => ?_, fun k e => ?_⟩, ?_⟩
  · by_cases c : q < ls.length
    · rw [List.getElem_append_left c]
      exact h8 q c hnq
    · rw [List.getElem_append_right (by omega)]
      have hj : q - ls.length < rs.length := by simp at hq; omega
      have hj2 : q - ls.length < sts.length := by have := hs.2.1; omega
      have := (hs.2.2.1 _ hj hj2).slen
      rw [up_len] at this
      have h2 := hst _ (List.getElem_mem hj2)
      omega
  · by_cases c : q < os.length
    · rw [List.getElem_append_left c]
      exact h9 q c hnq
    · have e : q = os.length := by simp at hq; omega
      subst e
      simp only [List.getElem_append_right (Nat.le_refl _), Nat.sub_self, List.getElem_cons_zero]
      exact hsl
  · rcases k5 k e with c | c | c
    · exact .inl (h10 k c)
    · exact .inr (.inl c)
    · exact .inr (.inr c)
  · exact k4.mono (fun k _ e => e.imp (h10 k) id)
theorem Bm.keep (h : Bm W gb S n m n' m') {v : Value} {l : List Int} (hv : Rw W 0 v l) (hTv : In T v) (hT : ∀ k, T k → ¬ S k) (hl : l.length ≤ 1000) (hn' : n' ≤ 50000) :
    Calls Try.prog 31 #[.pointer (some ⟨gb, 0, none⟩), v] W fun e X => e = .returned (.tuple #[]) ∧ Bm X gb (fun k => S k ∨ T k ∨ W.heap.size ≤ k) n m (n' + 1) m' ∧ Mv W X (fun k => S k ∨ T k) := by
  obtain ⟨own, vl, vm, vo, vn, ls, ms, os, ns, h1, h2, h3, h4, h5, h6, h7, h8, h9, h10⟩ := h
  refine (keep_any h1 h2 (decide_eq_true (by omega)) (by omega) hv (fun k e => Classical.byContradiction fun c => hT k (hTv k e) (h10 k c)) hl).mono ?_
  rintro e X ⟨rfl, own', vl', vm', k1, k2, k3⟩
  refine ⟨rfl, ⟨own', vl', vm', vo, vn, ls ++ [v], _, os, ns, k1, by simp [h2], h3, by simp [h4], h5, by omega, h7, fun q hq hnq => ?_, h9, fun k e => ?_⟩, ?_⟩
  · by_cases c : q < ls.length
    · rw [List.getElem_append_left c]
      exact h8 q c hnq
    · have e : q = ls.length := by simp at hq; omega
      subst e
      simp only [List.getElem_append_right (Nat.le_refl _), Nat.sub_self, List.getElem_cons_zero]
      rw [hv.slen]
      exact hl
  · rcases k3 k e with c | c | c
    · exact .inl (h10 k c)
    · exact .inr (.inl (hTv k c))
    · exact .inr (.inr c)
  · exact k2.mono (fun k _ e => e.imp (h10 k) (hTv k))
theorem Bm.grows (h : Bm W gb S n m n' m') (hn' : n' ≤ 50000) (hm' : m' ≤ 50000) :
    Calls Try.prog 32 #[.pointer (some ⟨gb, 0, none⟩)] W fun e X => e = .returned (.tuple #[]) ∧ (∃ N M, N + n = n' + n' ∧ M + m = m' + m' ∧ Bm X gb (fun k => S k ∨ W.heap.size ≤ k) N M N M) ∧ Mv W X S := by
  obtain ⟨own, vl, vm, vo, vn, ls, ms, os, ns, h1, h2, h3, h4, h5, h6, h7, h8, h9, h10⟩ := h
  have h1' := h1.names (P' := pq n ls.length) (R' := pq m os.length) (fun q hq => by unfold pq; rw [Bool.eq_iff_iff, decide_eq_true_iff, decide_eq_true_iff]; omega) (fun q hq => by unfold pq; rw [Bool.eq_iff_iff, decide_eq_true_iff, decide_eq_true_iff]; omega)
  refine (grows_any h1' h2 h3 (by omega) (by omega) (by omega) (by omega) (fun q hq e => h8 q hq (of_decide_eq_true e).1) (fun q hq e => h9 q hq (of_decide_eq_true e).1)).mono ?_
  rintro e X ⟨rfl, own', vl', vm', vo', vn', ls', ms', os', ns', k1, k2, k3, k4, k5, k6, k7⟩
  refine ⟨rfl, ⟨ls'.length, os'.length, by omega, by omega, own', vl', vm', vo', vn', ls', ms', os', ns', k1.names (fun q hq => ?_) (fun q hq => ?_), k2, k3, rfl, rfl, Nat.le_refl _, Nat.le_refl _, fun q hq hnq => by omega, fun q hq hnq => by omega, fun k e => ?_⟩, k6.mono (fun k _ e => h10 k e)⟩
  · unfold pq
    rw [Bool.eq_iff_iff, decide_eq_true_iff, decide_eq_true_iff]
    omega
  · unfold pq
    rw [Bool.eq_iff_iff, decide_eq_true_iff, decide_eq_true_iff]
    omega
  · exact (k7 k e).imp (h10 k) id
theorem Bm.looks (h : Bm W gb S n m n' m') (hn' : n' ≤ 100000) (hm' : m' ≤ 100000) : Calls Try.prog 33 #[.pointer (some ⟨gb, 0, none⟩)] W fun e X => e = .returned (.bool true) ∧ Below W.heap.size W X := by
  obtain ⟨own, vl, vm, vo, vn, ls, ms, os, ns, h1, h2, h3, h4, h5, h6, h7, h8, h9, h10⟩ := h
  exact looks_any h1 h2 h3 (by omega) (by omega)
end
end Go.Proofs.Ythgjdmomcpcolaa
