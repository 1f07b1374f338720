/-
  What an owner has written over and keeps: the list of it. No walk in this text.
-/
import Derived.Test.YtaaiogfbohndaaaDoorLex
namespace Go.Proofs.YtaaiogfbohndaaaDoor
open Go.RowKit
theorem info57 : (Tryd.prog.info? 57).map (fun i => (i.zero, i.size, i.bytes)) = some (some (.agg #[.slice none 0 0, .int .i64 0]), 2, 32) := by kernel_rfl
def mk (m : Nat) : List Value := [.int .i64 (m : Nat), .string ByteArray.empty, .int .i64 0]
/-- So many marks, as cells. -/
def rep : Nat → Nat → List Value
  | 0, _ => []
  | n + 1, m => rep n m ++ mk m
theorem rep_len : ∀ n m, (rep n m).length = n * 3
  | 0, _ => rfl
  | n + 1, m => by rw [rep, List.length_append, rep_len n m]; simp [mk]; omega
theorem rep_at : ∀ (n m k j : Nat), k < n → j < 3 → (rep n m)[k * 3 + j]? = (mk m)[j]?
  | n + 1, m, k, j, hk, hj => by
    rw [rep]
    by_cases h : k < n
    · rw [List.getElem?_append_left (by rw [rep_len]; omega)]
      exact rep_at n m k j h hj
    · obtain rfl : k = n := by omega
      rw [List.getElem?_append_right (by rw [rep_len]; omega), rep_len]
      congr 1
      omega
theorem own_len {w : World} {B e s n : Nat} {v : Value} {xs : List Value} (h : w.ownsRow B e s v n xs) : ∃ a c, v = .slice a n c := by
  rcases h.2 with ⟨rfl, rfl⟩ | ⟨g, c, cur, rfl, _⟩
  · exact ⟨none, 0, rfl⟩
  · exact ⟨_, c, rfl⟩
theorem own_cap {w : World} {B e s n c : Nat} {a : Option Addr} {xs : List Value} (h : w.ownsRow B e s (.slice a n c) n xs) : n ≤ c ∧ c ≤ 9223372036854775807 := by
  rcases h.2 with ⟨e, rfl⟩ | ⟨g, c', cur, e, _, _, h1, h2, _⟩
  · simp only [Value.slice.injEq] at e
    obtain ⟨_, _, rfl⟩ := e
    exact ⟨Nat.le_refl _, by omega⟩
  · simp only [Value.slice.injEq] at e
    obtain ⟨_, _, rfl⟩ := e
    unfold maxLen at h2
    exact ⟨h1, by omega⟩
theorem own_addr {w : World} {B e s n c : Nat} {a : Option Addr} {xs : List Value} (h : w.ownsRow B e s (.slice a n c) n xs) (hn : 0 < n) : ∃ g, a = some ⟨g, 0, none⟩ := by
  rcases h.2 with ⟨_, e⟩ | ⟨g, c', cur, e, _⟩
  · omega
  · simp only [Value.slice.injEq] at e
    exact ⟨g, e.1⟩
/-- It reads as this mark alone. -/
def Hd (w : World) (v : Value) (m : Nat) : Prop := ∃ ao n c, v = .slice ao n c ∧ n ≤ c ∧ c ≤ 9223372036854775807 ∧ ∀ k, k < n → ∃ g, ao = some ⟨g, 0, none⟩ ∧ ∀ j, j < 3 → w.cell? ⟨g, k * 3 + j, none⟩ = (mk m)[j]?
theorem Hd.same {w w' : World} {v : Value} {m : Nat} (h : Hd w v m) (hs : ∀ g, v.ownBlock = some g → g < w.heap.size → w'.heap[g]? = w.heap[g]?) : Hd w' v m := by
  obtain ⟨ao, n, c, rfl, h1, h2, h3⟩ := h
  refine ⟨ao, n, c, rfl, h1, h2, fun k hk => ?_⟩
  obtain ⟨g, rfl, hc⟩ := h3 k hk
  refine ⟨g, rfl, fun j hj => ?_⟩
  have h0 := hc 0 (by decide)
  have hlt : g < w.heap.size := World.block_lt_of_cell? w _ (h0.trans rfl)
  exact (World.cell?_of_block (hs g rfl hlt)).trans (hc j hj)
theorem hd_own {w : World} {B n m : Nat} {v : Value} (h : w.ownsRow B 48 3 v n (rep n m)) : Hd w v m := by
  obtain ⟨a, c, rfl⟩ := own_len h
  obtain ⟨h1, h2⟩ := own_cap h
  refine ⟨a, n, c, rfl, h1, h2, fun k hk => ?_⟩
  obtain ⟨g, rfl⟩ := own_addr h (by omega)
  exact ⟨g, rfl, fun j hj => (h.cellAt (k * 3 + j) (by omega)).trans (rep_at n m k j hk hj)⟩
def flat : List (Value × Nat) → List Value
  | [] => []
  | h :: t => h.1 :: .int .i64 (h.2 : Nat) :: flat t
theorem flat_append : ∀ (a b : List (Value × Nat)), flat (a ++ b) = flat a ++ flat b
  | [], _ => rfl
  | h :: t, b => by simp [flat, flat_append t b]
theorem flat_at : ∀ (hs : List (Value × Nat)) (j : Nat) (h : j < hs.length), (flat hs)[j * 2]? = some hs[j].1 ∧ (flat hs)[j * 2 + 1]? = some (.int .i64 (hs[j].2 : Nat))
  | h :: t, 0, _ => ⟨rfl, rfl⟩
  | h :: t, j + 1, hj => by
    have := flat_at t j (by simpa using hj)
    rw [show (j + 1) * 2 = j * 2 + 1 + 1 by omega]
    simpa [flat] using this
/-- The list of what is kept; X: all blocks of it. -/
def Kept (w : World) (X : Nat → Prop) (vk : Value) (hs : List (Value × Nat)) : Prop :=
  w.ownsRow 0 57 2 vk hs.length (flat hs) ∧ (∀ g, vk.ownBlock = some g → X g) ∧ ∀ h ∈ hs, Hd w h.1 h.2 ∧ ∀ g, h.1.ownBlock = some g → X g ∧ g < w.heap.size ∧ vk.ownBlock ≠ some g
/-- But for these blocks all that was there is as it was. -/
def Mv (w w' : World) (S : Nat → Prop) : Prop := w'.os = w.os ∧ w'.tape = w.tape ∧ w'.output = w.output ∧ w.heap.size ≤ w'.heap.size ∧ ∀ k, k < w.heap.size → ¬ S k → w'.heap[k]? = w.heap[k]?
section
variable {w w1 w2 : World} {S T : Nat → Prop}
theorem Mv.refl (w : World) (S : Nat → Prop) : Mv w w S := ⟨rfl, rfl, rfl, Nat.le_refl _, fun _ _ _ => rfl⟩
theorem Mv.trans (h : Mv w w1 S) (k : Mv w1 w2 T) (hT : ∀ q, q < w.heap.size → T q → S q) : Mv w w2 S :=
  ⟨k.1.trans h.1, k.2.1.trans h.2.1, k.2.2.1.trans h.2.2.1, Nat.le_trans h.2.2.2.1 k.2.2.2.1, fun q hq hs => (k.2.2.2.2 q (Nat.lt_of_lt_of_le hq h.2.2.2.1) (fun t => hs (hT q hq t))).trans (h.2.2.2.2 q hq hs)⟩
theorem Mv.wide (h : Mv w w1 S) (hT : ∀ k, S k → T k) : Mv w w1 T := ⟨h.1, h.2.1, h.2.2.1, h.2.2.2.1, fun k hk hs => h.2.2.2.2 k hk (fun e => hs (hT k e))⟩
theorem Mv.of_below (h : Below w.heap.size w w1) (S : Nat → Prop) : Mv w w1 S := ⟨h.os, h.tape, h.output, h.size, fun k hk _ => h.block k hk⟩
theorem Mv.of_grown {row : Option Nat} (h : w.grownBy w1 row) : Mv w w1 (fun k => row = some k) := ⟨h.os, h.tape, h.output, h.size, fun k hk hs => h.block k hk (fun e => hs e.symm)⟩
theorem Mv.alloc (w : World) (o : Obj) (S : Nat → Prop) : Mv w (w.alloc o) S := Mv.of_below ((Below.refl _ w).alloc (Nat.le_refl _) o) S
theorem Mv.set (w : World) (g j : Nat) (u : Value) : Mv w (w.setCell ⟨g, j, none⟩ u) (fun k => k = g) := ⟨rfl, rfl, rfl, by simp [World.setCell], fun k _ hs => Below.heap_setCell _ _ _ _ hs⟩
theorem Mv.below {B : Nat} {w0 : World} (h : Mv w w1 S) (h0 : Below B w0 w) (hB : B ≤ w.heap.size) (hS : ∀ k, k < B → ¬ S k) : Below B w0 w1 :=
  h0.trans ⟨h.1, h.2.1, h.2.2.1, h.2.2.2.1, fun k hk => h.2.2.2.2 k (Nat.lt_of_lt_of_le hk hB) (hS k hk)⟩
theorem Mv.own {B e s n : Nat} {v : Value} {xs : List Value} (h : Mv w w1 S) (hv : w.ownsRow B e s v n xs) (hs : ∀ g, v.ownBlock = some g → ¬ S g) : w1.ownsRow B e s v n xs := by
  refine ⟨hv.1, ?_⟩
  rcases hv.2 with h0 | ⟨g, cap, cur, rfl, hb, hg, hr⟩
  · exact .inl h0
  · exact .inr ⟨g, cap, cur, rfl, hb, (h.2.2.2.2 g (Array.getElem?_eq_some_iff.1 hg).1 (hs g rfl)).trans hg, hr⟩
theorem Kept.frame {X : Nat → Prop} {vk : Value} {hs : List (Value × Nat)} (h : Kept w X vk hs) (hm : Mv w w1 S) (hd : ∀ k, X k → ¬ S k) : Kept w1 X vk hs := by
  obtain ⟨h1, h2, h3⟩ := h
  refine ⟨hm.own h1 (fun g e => hd g (h2 g e)), h2, fun x hx => ?_⟩
  obtain ⟨a1, a2⟩ := h3 x hx
  exact ⟨a1.same (fun g e hlt => hm.2.2.2.2 g hlt (hd g (a2 g e).1)), fun g e => ⟨(a2 g e).1, Nat.lt_of_lt_of_le (a2 g e).2.1 hm.2.2.2.1, (a2 g e).2.2⟩⟩
theorem Kept.later {X : Nat → Prop} {vk : Value} {hs : List (Value × Nat)} (h : Kept w X vk hs) (hb : Below w.heap.size w w1) : Kept w1 X vk hs := h.frame (Mv.of_below hb (fun _ => False)) (fun _ _ e => e)
theorem Kept.nil (w : World) (X : Nat → Prop) : Kept w X (.slice none 0 0) [] := ⟨World.ownsRow_nil _ _ _ _, fun g e => (by cases e), fun h hh => (by cases hh)⟩
theorem Kept.wider {X Y : Nat → Prop} {vk : Value} {hs : List (Value × Nat)} (h : Kept w X vk hs) (hxy : ∀ k, k < w.heap.size → X k → Y k) : Kept w Y vk hs :=
  ⟨h.1, fun g e => hxy g (h.1.lt g e).2 (h.2.1 g e), fun x hx => ⟨(h.2.2 x hx).1, fun g e => ⟨hxy g ((h.2.2 x hx).2 g e).2.1 ((h.2.2 x hx).2 g e).1, ((h.2.2 x hx).2 g e).2⟩⟩⟩
/-- One more is kept, and the list of it may have come to lie elsewhere. -/
theorem Kept.push {X : Nat → Prop} {vk vk' v : Value} {hs : List (Value × Nat)} {m : Nat} (h : Kept w X vk hs) (ho : w1.ownsRow 0 57 2 vk' (hs.length + 1) (flat hs ++ [v, .int .i64 (m : Nat)])) (hg : w.grownBy w1 vk.ownBlock) (hv : vk'.ownBlock = vk.ownBlock ∨ vk'.ownBlock = some w.heap.size) (hd : Hd w v m)
    (hvb : ∀ g, v.ownBlock = some g → g < w.heap.size ∧ vk.ownBlock ≠ some g) : Kept w1 (fun k => X k ∨ v.ownBlock = some k ∨ k = w.heap.size) vk' (hs ++ [(v, m)]) := by
  obtain ⟨h1, h2, h3⟩ := h
  have hne : ∀ g, g < w.heap.size → vk.ownBlock ≠ some g → vk'.ownBlock ≠ some g := fun g hlt hn e => by
    rcases hv with hv | hv
    · rw [hv] at e; exact hn e
    · rw [hv] at e
      have := Option.some.inj e
      omega
  refine ⟨by rw [flat_append, List.length_append]; simpa [flat] using ho, fun g e => ?_, fun x hx => ?_⟩
  · rcases hv with hv | hv
    · rw [hv] at e; exact .inl (h2 g e)
    · rw [hv] at e; exact .inr (.inr (Option.some.inj e).symm)
  · rcases List.mem_append.1 hx with hx | hx
    · obtain ⟨a1, a2⟩ := h3 x hx
      exact ⟨a1.same (fun g e hlt => hg.block g hlt (fun e' => (a2 g e).2.2 e'.symm)), fun g e => ⟨.inl (a2 g e).1, Nat.lt_of_lt_of_le (a2 g e).2.1 hg.size, hne g (a2 g e).2.1 (a2 g e).2.2⟩⟩
    · simp only [List.mem_cons, List.not_mem_nil, or_false] at hx
      subst hx
      exact ⟨hd.same (fun g e hlt => hg.block g hlt (fun e' => (hvb g e).2 e'.symm)), fun g e => ⟨.inr (.inl e), Nat.lt_of_lt_of_le (hvb g e).1 hg.size, hne g (hvb g e).1 (hvb g e).2⟩⟩
end
end Go.Proofs.YtaaiogfbohndaaaDoor
