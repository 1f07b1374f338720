/-
  A store, and rows of the law's own beside it; steps that came in.
-/
import Derived.Test.YtmceoelafmlpjaaFuses
namespace Go.Proofs.Ytmceoelafmlpjaa
open Go.RowKit
/-- A list of three numbers each, that came in. -/
def Ts (w : World) (v : Value) (N : Nat) (z : Nat → Nat → Int) : Prop :=
  ∃ ao c, v = .slice ao N c ∧ N ≤ c ∧ c ≤ maxLen ∧ ∀ i, i < N → ∃ g o, ao = some ⟨g, o, none⟩ ∧ ∀ j, j < 3 → w.cell? ⟨g, o + i * 3 + j, none⟩ = some (.int .i64 (z i j)) ∧ -9223372036854775808 ≤ z i j ∧ z i j ≤ 9223372036854775807
theorem Ts.below {B : Nat} {w w' : World} {v : Value} {N : Nat} {z : Nat → Nat → Int} (h : Ts w v N z) (hb : Below B w w') (hB : w.heap.size ≤ B) : Ts w' v N z := by
  obtain ⟨ao, c, rfl, h1, h2, h3⟩ := h
  refine ⟨ao, c, rfl, h1, h2, fun i hi => ?_⟩
  obtain ⟨g, o, e, hc⟩ := h3 i hi
  exact ⟨g, o, e, fun j hj => ⟨(hb.cell (p := ⟨g, o + i * 3 + j, none⟩) (Nat.lt_of_lt_of_le (World.block_lt_of_cell? w _ (hc j hj).1) hB)).trans (hc j hj).1, (hc j hj).2⟩⟩

/-- A row of the law's own, beside a store. -/
def Rw (W : World) (B g : Nat) (v u : Value) (L : List UInt8) : Prop := W.ownsRow B 5 1 u L.length (Lib.byteCells L) ∧ u.ownBlock ≠ some g ∧ Ap u v
/-- A store, and three rows beside it, each apart from the others. -/
def Tr (W : World) (B g : Nat) (u8 : Value) (L : List UInt8) (u9 : Value) (O : List UInt8) (ux : Value) (X : List UInt8) (l : List UInt8) (n : Nat) (on : Bool) (f : Int) : Prop :=
  ∃ v, St W B g v l n on f ∧ Rw W B g v u8 L ∧ Rw W B g v u9 O ∧ Rw W B g v ux X ∧ Ap u8 u9 ∧ Ap ux u8 ∧ Ap ux u9
section
variable {W W' : World} {B g : Nat} {v u8 u9 ux : Value} {L O X l : List UInt8} {n : Nat} {on : Bool} {f : Int}
theorem Rw.nil : Rw W B g v (.slice none 0 0) [] := ⟨World.ownsRow_nil _ _ _ _, by simp [Value.ownBlock], fun k hk => by simp [Value.ownBlock] at hk⟩
theorem Rw.later (h : Rw W B g v u8 L) (hb : Below W.heap.size W W') : Rw W' B g v u8 L := ⟨h.1.kept (grown_later hb) (by cases u8.ownBlock <;> simp), h.2⟩
theorem Rw.kept (h : Rw W B g v u8 L) (hg : W.grownBy W' u9.ownBlock) (ha : Ap u8 u9) : Rw W' B g v u8 L := by
  refine ⟨h.1.kept hg ?_, h.2⟩
  cases hv : u8.ownBlock with
  | none => exact .inl rfl
  | some k => exact .inr (fun e => ha k hv e.symm)
theorem Ap.grown {u u' : Value} (h : Rw W B g v u8 L) (ha : Ap u8 u) (he : u'.ownBlock = u.ownBlock ∨ u'.ownBlock = some W.heap.size) : Ap u8 u' := fun k hu hv => by
  rcases he with e | e <;> rw [e] at hv
  · exact ha k hu hv
  · cases hv
    have := (h.1.lt _ hu).2
    omega
theorem Tr.later (h : Tr W B g u8 L u9 O ux X l n on f) (hb : Below W.heap.size W W') : Tr W' B g u8 L u9 O ux X l n on f := by
  obtain ⟨v, h1, a, b, c, h4⟩ := h
  exact ⟨v, h1.later hb, a.later hb, b.later hb, c.later hb, h4⟩
theorem Tr.flip (h : Tr W B g u8 L u9 O ux X l n on f) : Tr W B g u9 O u8 L ux X l n on f := by
  obtain ⟨v, h1, h2, h3, h4, h5, h6, h7⟩ := h
  exact ⟨v, h1, h3, h2, h4, h5.symm, h7, h6⟩
theorem Tr.nil (h : Tr W B g u8 L u9 O ux X l n on f) : Tr W B g u8 L (.slice none 0 0) [] ux X l n on f := by
  obtain ⟨v, h1, h2, _, h4, _, h6, _⟩ := h
  exact ⟨v, h1, h2, Rw.nil, h4, fun k _ hk => by simp [Value.ownBlock] at hk, h6, fun k _ hk => by simp [Value.ownBlock] at hk⟩
theorem Tr.drop (h : Tr W B g u8 L u9 O ux X l n on f) : Tr W B g u8 L u9 O (.slice none 0 0) [] l n on f := by
  obtain ⟨v, h1, h2, h3, _, h5, _, _⟩ := h
  exact ⟨v, h1, h2, h3, Rw.nil, h5, fun k hk => by simp [Value.ownBlock] at hk, fun k hk => by simp [Value.ownBlock] at hk⟩
theorem Tr.base (h : Tr W B g u8 L u9 O ux X l n on f) : B ≤ W.heap.size := by
  obtain ⟨v, h1, _⟩ := h
  exact Nat.le_trans h1.2.2.1 (Nat.le_of_lt h1.lt)
/-- A row that was made since. -/
theorem Tr.third {uy : Value} {Y : List UInt8} (h : Tr W B g u8 L u9 O ux X l n on f) (hb : Below W.heap.size W W') (hy : W'.ownsRow W.heap.size 5 1 uy Y.length (Lib.byteCells Y)) : Tr W' B g u8 L u9 O uy Y l n on f := by
  have hB := h.base
  obtain ⟨v, h1, h2, h3, _, h5, _, _⟩ := h
  refine ⟨v, h1.later hb, h2.later hb, h3.later hb, ⟨own_lower hy hB, fun e => ?_, fun k e1 e2 => ?_⟩, h5, fun k e1 e2 => ?_, fun k e1 e2 => ?_⟩
  · have := (hy.lt _ e).1
    have := h1.lt
    omega
  · have := (hy.lt _ e1).1
    have := (h1.2.1.lt _ e2).2
    omega
  · have := (hy.lt _ e1).1
    have := (h2.1.lt _ e2).2
    omega
  · have := (hy.lt _ e1).1
    have := (h3.1.lt _ e2).2
    omega
/-- The second row grows. -/
theorem Tr.grow {u' : Value} {q : List UInt8} (h : Tr W B g u8 L u9 O ux X l n on f) (ho : W'.ownsRow B 5 1 u' (O.length + q.length) (Lib.byteCells O ++ Lib.byteCells q)) (hg : W.grownBy W' u9.ownBlock) (ha : u'.ownBlock = u9.ownBlock ∨ u'.ownBlock = some W.heap.size) : Tr W' B g u8 L u' (O ++ q) ux X l n on f := by
  obtain ⟨v, h1, a, b, c, h4, h5, h6⟩ := h
  rw [← Lib.byteCells_append] at ho
  refine ⟨v, h1.kept hg b.2.1 (fun k e hv => b.2.2 k e hv), a.kept hg h4, ⟨by rw [List.length_append]; exact ho, ?_, fun k hu hv => ?_⟩, c.kept hg h6, Ap.grown a h4 ha, h5, Ap.grown c h6 ha⟩
  · rcases ha with e | e <;> rw [e]
    · exact b.2.1
    · have := h1.lt
      simp
      omega
  · rcases ha with e | e <;> rw [e] at hu
    · exact b.2.2 k hu hv
    · cases hu
      have := (h1.2.1.lt _ hv).2
      omega
/-- The store turns. -/
theorem turn_rw {v v' u : Value} {a l' : List UInt8} {n' : Nat} {on' : Bool} {f' : Int} (h : Rw W B g v u a) (hs : St W' B g v' l' n' on' f') (ho : On W W' g v v') : Rw W' B g v' u a := by
  obtain ⟨h2, h3, h4⟩ := h
  obtain ⟨v2, _, x1, x2, x3⟩ := Bd.turn h2 h3 h4 hs ho
  refine ⟨x1, x2, fun k hu hv => ?_⟩
  rcases ho.2 k hv with h | h
  · exact h4 k hu h
  · have := (h2.lt k hu).2
    omega
theorem turn_tr {v v' : Value} {l' : List UInt8} {n' : Nat} {on' : Bool} {f' : Int} (h : Rw W B g v u8 L ∧ Rw W B g v u9 O ∧ Rw W B g v ux X ∧ Ap u8 u9 ∧ Ap ux u8 ∧ Ap ux u9) (hs : St W' B g v' l' n' on' f') (ho : On W W' g v v') : Tr W' B g u8 L u9 O ux X l' n' on' f' :=
  ⟨v', hs, turn_rw h.1 hs ho, turn_rw h.2.1 hs ho, turn_rw h.2.2.1 hs ho, h.2.2.2⟩
theorem append_tr (vb : Value) (b : List UInt8) (w : World) (h : Tr w B g u8 L u9 O ux X l n true (-1)) (hb : Bs w vb b) (hnb : NilOr vb) (hm : l.length + b.length ≤ 16777216) :
    Calls Try.prog 12 #[.pointer (some ⟨g, 0, none⟩), vb] w fun e w' => e = .returned (.int .i64 0) ∧ Tr w' B g u8 L u9 O ux X (l ++ b) n true (-1) ∧ Below B w w' := by
  obtain ⟨v, h1, h2⟩ := h
  refine (append_free g B v vb l b n w h1 hb hnb hm).mono ?_
  rintro e w' ⟨v', rfl, hs, ho⟩
  exact ⟨rfl, turn_tr h2 hs ho, ho.below h1⟩
theorem append_dead (vb : Value) (w : World) (h : Tr w B g u8 L u9 O ux X l n false f) :
    Calls Try.prog 12 #[.pointer (some ⟨g, 0, none⟩), vb] w fun e w' => e = .returned (.int .i64 30) ∧ w' = w := by
  obtain ⟨v, h1, _⟩ := h
  exact append_off g B v vb l n f w h1
theorem sync_tr (w : World) (h : Tr w B g u8 L u9 O ux X l n true f) :
    Calls Try.prog 13 #[.pointer (some ⟨g, 0, none⟩)] w fun e w' => e = .returned (.int .i64 0) ∧ Tr w' B g u8 L u9 O ux X l l.length true f ∧ Below B w w' := by
  obtain ⟨v, h1, h2⟩ := h
  refine (sync_any g B v l n f w h1).mono ?_
  rintro e w' ⟨rfl, hs, ho⟩
  exact ⟨rfl, turn_tr h2 hs ho, ho.below h1⟩
theorem sync_dead (w : World) (h : Tr w B g u8 L u9 O ux X l n false f) :
    Calls Try.prog 13 #[.pointer (some ⟨g, 0, none⟩)] w fun e w' => e = .returned (.int .i64 30) ∧ w' = w := by
  obtain ⟨v, h1, _⟩ := h
  exact sync_off g B v l n f w h1
theorem restart_tr (w : World) (h : Tr w B g u8 L u9 O ux X l n on f) :
    Calls Try.prog 16 #[.pointer (some ⟨g, 0, none⟩)] w fun e w' => e = .returned (.tuple #[]) ∧ Tr w' B g u8 L u9 O ux X l n true (-1) ∧ Below B w w' := by
  obtain ⟨v, h1, h2⟩ := h
  refine (restart_any g B v l n on f w h1).mono ?_
  rintro e w' ⟨rfl, hs, ho⟩
  exact ⟨rfl, turn_tr h2 hs ho, ho.below h1⟩
theorem crash_tr (vj : Value) (j : List UInt8) (k : Nat) (w : World) (h : Tr w B g u8 L u9 O ux X l n true f) (hj : Bs w vj j) (hnj : NilOr vj) (hm : n + min k (l.length - n) + j.length ≤ 16777216) :
    Calls Try.prog 14 #[.pointer (some ⟨g, 0, none⟩), .int .i64 k, vj] w fun e w' => e = .returned (.int .i64 0) ∧ Tr w' B g u8 L u9 O ux X (l.take (n + min k (l.length - n)) ++ j) (n + min k (l.length - n) + j.length) false (-1) ∧ Below B w w' := by
  obtain ⟨v, h1, h2⟩ := h
  refine (crash_any g B v vj l j n k f w h1 hj hnj hm).mono ?_
  rintro e w' ⟨v', rfl, hs, ho⟩
  exact ⟨rfl, turn_tr h2 hs ho, ho.below h1⟩
theorem state_tr (w : World) (h : Tr w B g u8 L u9 O ux X l n on f) :
    Calls Try.prog 17 #[.pointer (some ⟨g, 0, none⟩)] w fun e w' => e = .returned (.tuple #[.int .i64 l.length, .int .i64 n, .bool on]) ∧ Tr w' B g u8 L u9 O ux X l n on f ∧ Below w.heap.size w w' := by
  obtain ⟨v, h1, _⟩ := id h
  refine (state_any g B v l n on f w h1).mono ?_
  rintro e w' ⟨rfl, hb⟩
  exact ⟨rfl, h.later hb, hb⟩
theorem bytes_tr (w : World) (h : Tr w B g u8 L u9 O ux X l n true f) :
    Calls Try.prog 15 #[.pointer (some ⟨g, 0, none⟩)] w fun e w' => ∃ v', e = .returned v' ∧ (Bs w' v' l ∧ NilOr v') ∧ Tr w' B g u8 L u9 O ux X l n true f ∧ Below w.heap.size w w' := by
  obtain ⟨v, h1, _⟩ := id h
  refine (bytes_on g B v l n f w h1).mono ?_
  rintro e w' ⟨rfl, hr, hb⟩
  exact ⟨_, rfl, ⟨lit_bs hr (by have := h1.2.2.2.2.2.1; unfold maxLen; omega), .inr ⟨_, _, _, rfl⟩⟩, h.later hb, hb⟩
theorem bytes_dead (w : World) (h : Tr w B g u8 L u9 O ux X l n false f) :
    Calls Try.prog 15 #[.pointer (some ⟨g, 0, none⟩)] w fun e w' => e = .returned (.slice none 0 0) ∧ w' = w := by
  obtain ⟨v, h1, _⟩ := h
  exact bytes_off g B v l n f w h1
end
end Go.Proofs.Ytmceoelafmlpjaa
