/-
  The reader of bytes, as plain functions.
-/
import Derived.Test.YtpolajoephjdhaaDoorEnE
namespace Go.Proofs.YtpolajoephjdhaaDoor
open Go.RowKit
set_option maxRecDepth 100000
/-- Where a reader stands; how many instructions there may still be; is something wrong. -/
structure Rs where
  at' : Nat
  left : Nat
  bad : Bool
def passR (s : Rs) (size : Nat) (right : Bool) : Rs := if s.bad || size == 0 || !right then ⟨s.at', s.left, true⟩ else ⟨s.at' + size, s.left, false⟩
def numR (b : List UInt8) (least most : Nat) (s : Rs) : Rs := passR s (Dec.getN (b.drop s.at')).2 (decide (least ≤ (Dec.getN (b.drop s.at')).1 ∧ (Dec.getN (b.drop s.at')).1 ≤ most))
def numV (b : List UInt8) (least most : Nat) (s : Rs) : Nat := if (numR b least most s).bad then 0 else (Dec.getN (b.drop s.at')).1
def sgnR (b : List UInt8) (s : Rs) : Rs := passR s (Dec.getN (b.drop s.at')).2 true
def sgnV (b : List UInt8) (s : Rs) : Int := if (sgnR b s).bad then 0 else Dec.unzig (Dec.getN (b.drop s.at')).1
def nmT (b : List UInt8) (s : Rs) : List UInt8 × Nat := textN ((b.take (s.at' + 17)).drop s.at')
def nmR (b : List UInt8) (s : Rs) : Rs := passR s (nmT b s).2 (decide ((nmT b s).1 ≠ []))
def nmV (b : List UInt8) (s : Rs) : List UInt8 := if (nmR b s).bad then [] else (nmT b s).1
theorem passR_left (s : Rs) (n : Nat) (r : Bool) : (passR s n r).left = s.left := by unfold passR; split <;> rfl
theorem passR_at {s : Rs} {n m : Nat} {r : Bool} (h : n ≤ m - s.at') (h2 : s.at' ≤ m) : (passR s n r).at' ≤ m ∧ s.at' ≤ (passR s n r).at' := by
  unfold passR
  split
  · exact ⟨h2, Nat.le_refl _⟩
  · dsimp only; omega
theorem numR_at {b : List UInt8} {l m : Nat} {s : Rs} (h : s.at' ≤ b.length) : (numR b l m s).at' ≤ b.length ∧ s.at' ≤ (numR b l m s).at' := by
  refine passR_at ?_ h
  have := Dec.getN_le (b.drop s.at')
  rw [List.length_drop] at this
  exact this
theorem sgnR_at {b : List UInt8} {s : Rs} (h : s.at' ≤ b.length) : (sgnR b s).at' ≤ b.length ∧ s.at' ≤ (sgnR b s).at' := by
  refine passR_at ?_ h
  have := Dec.getN_le (b.drop s.at')
  rw [List.length_drop] at this
  exact this
theorem textN_le (l : List UInt8) : (textN l).2 ≤ l.length := by
  unfold textN
  split
  · simp
  · have := Dec.getN_le l
    simp only
    omega
theorem nmR_at {b : List UInt8} {s : Rs} (h : s.at' ≤ b.length) : (nmR b s).at' ≤ b.length ∧ s.at' ≤ (nmR b s).at' := by
  refine passR_at ?_ h
  have := textN_le ((b.take (s.at' + 17)).drop s.at')
  rw [List.length_drop, List.length_take] at this
  unfold nmT
  omega
theorem numV_le (b : List UInt8) (l m : Nat) (s : Rs) : numV b l m s ≤ m := by
  unfold numV
  split
  · omega
  · rename_i h
    unfold numR passR at h
    split at h
    · exact absurd rfl h
    · rename_i h2
      simp at h2
      omega
/-- The reader in memory. -/
def Rdr (W : World) (B k : Nat) (b : List UInt8) (s : Rs) : Prop :=
  B ≤ k ∧ s.at' ≤ b.length ∧ s.left ≤ 2000 ∧ b.length ≤ 281474976710656 ∧ ∃ vb, W.heap[k]? = some (.cells #[vb, .int .i64 (s.at' : Int), .int .i64 (s.left : Int), .bool s.bad] 76 (0, 0)) ∧ Bs W vb b ∧ ∀ j, 0 < b.length → vb.ownBlock = some j → j < B
section
variable {W W' : World} {B k : Nat} {b : List UInt8} {s : Rs}
theorem Bs.mv {v : Value} {l : List UInt8} {S : Nat → Prop} (h : Bs W v l) (hm : Mv W W' S) (hs : ∀ j, 0 < l.length → v.ownBlock = some j → ¬ S j) : Bs W' v l := by
  obtain ⟨ao, c, rfl, h1, h2, h3⟩ := h
  refine ⟨ao, c, rfl, h1, h2, fun j hj => ?_⟩
  obtain ⟨g, o, rfl, hc⟩ := h3 j hj
  exact ⟨g, o, rfl, hm.cell hc (hs g (by omega) rfl)⟩
theorem Rdr.mv {S : Nat → Prop} (h : Rdr W B k b s) (hm : Mv W W' S) (hs : ∀ j, S j → B ≤ j ∧ j ≠ k) : Rdr W' B k b s := by
  obtain ⟨h1, h2, h3, h4, vb, h5, h6, h7⟩ := h
  exact ⟨h1, h2, h3, h4, vb, hm.at h5 (fun e => (hs k e).2 rfl), h6.mv hm (fun j hp e e2 => by have := (hs j e2).1; have := h7 j hp e; omega), h7⟩
theorem Rdr.later (h : Rdr W B k b s) (hb : Below W.heap.size W W') : Rdr W' B k b s := h.mv (Mv.of_below hb (fun _ => False)) (fun _ e => e.elim)
theorem Rdr.lt (h : Rdr W B k b s) : k < W.heap.size := by
  obtain ⟨-, -, -, -, vb, h5, -⟩ := h
  exact lt_of_block h5
set_option maxHeartbeats 1000000 in
theorem pass_any (h : Rdr W B k b s) (n : Nat) (r : Bool) (hn : n ≤ b.length - s.at') : Calls Tryd.prog 60 #[.pointer (some ⟨k, 0, none⟩), .int .i64 (n : Int), .bool r] W fun e w' => e = .returned (.bool (!(passR s n r).bad)) ∧ Rdr w' B k b (passR s n r) ∧ Mv W w' (fun j => j = k) := by
  obtain ⟨h1, h2, h3, h4, vb, h5, h6, h7⟩ := h
  have c1 : W.cell? ⟨k, 1, none⟩ = some (.int .i64 (s.at' : Int)) := by rw [cell_of_row W _ _ _ 76 (0, 0) h5]; rfl
  have c3 : W.cell? ⟨k, 3, none⟩ = some (.bool s.bad) := by rw [cell_of_row W _ _ _ 76 (0, 0) h5]; rfl
  have z : ∀ q, W.frozen? ⟨k, q, none⟩ = false := fun q => frozen_of_row W k q _ 76 h5
  have fin1 : ∀ w', w' = W.setCell ⟨k, 3, none⟩ (.bool true) → Rdr w' B k b ⟨s.at', s.left, true⟩ ∧ Mv W w' (fun j => j = k) := fun w' e => by
    subst e
    have m := (Mv.refl W (fun j => j = k)).set (g := k) rfl 3 (.bool true)
    exact ⟨⟨h1, h2, h3, h4, vb, heap_setCell_same W k 3 _ 76 _ h5, h6.mv m (fun j hp e e2 => by have := h7 j hp e; omega), h7⟩, m⟩
  have F1 := hide fin1
  have fin2 : ∀ w', w' = (W.setCell ⟨k, 3, none⟩ (.bool false)).setCell ⟨k, 1, none⟩ (.int .i64 ((s.at' + n : Nat) : Int)) → Rdr w' B k b ⟨s.at' + n, s.left, false⟩ ∧ Mv W w' (fun j => j = k) := fun w' e => by
    subst e
    have m := ((Mv.refl W (fun j => j = k)).set (g := k) rfl 3 (.bool false)).set (g := k) rfl 1 (.int .i64 ((s.at' + n : Nat) : Int))
    exact ⟨⟨h1, by show s.at' + n ≤ _; omega, h3, h4, vb, heap_setCell_same _ k 1 _ 76 _ (heap_setCell_same W k 3 _ 76 _ h5), h6.mv m (fun j hp e e2 => by have := h7 j hp e; omega), h7⟩, m⟩
  have F2 := hide fin2
  obtain ⟨x, hx⟩ : ∃ x, x = passR s n r := ⟨_, rfl⟩
  rw [← hx]
  have HX := hide hx
  unfold passR at HX
  obtain ⟨a, le, bad⟩ := s
  dsimp only at *
  clear fin1 fin2 h5 h6 h7 hx
  cases bad with
  | true =>
    obtain rfl : x = ⟨a, le, true⟩ := by rw [HX.out]; rfl
    go_enter Tryd.func60, Tryd.ntmps60
    go_wp2_with fail
    go_ret
    exact ⟨rfl, F1.out _ rfl⟩
  | false =>
    by_cases hn0 : n = 0
    · subst hn0
      obtain rfl : x = ⟨a, le, true⟩ := by rw [HX.out]; rfl
      go_enter Tryd.func60, Tryd.ntmps60
      go_wp2_with fail
      go_ret
      exact ⟨rfl, F1.out _ rfl⟩
    · have tn : ((n : Int) == 0) = false := by rw [beq_eq_false_iff_ne]; omega
      cases r with
      | false =>
        obtain rfl : x = ⟨a, le, true⟩ := by rw [HX.out]; simp
        go_enter Tryd.func60, Tryd.ntmps60
        go_wp2_with fail
        go_ret
        exact ⟨rfl, F1.out _ rfl⟩
      | true =>
        obtain rfl : x = ⟨a + n, le, false⟩ := by rw [HX.out]; simp [hn0]
        clear hn0
        go_enter Tryd.func60, Tryd.ntmps60
        go_wp2_with fail
        go_ret
        exact ⟨rfl, F2.out _ (by simp)⟩
end
end Go.Proofs.YtpolajoephjdhaaDoor
