/-
  A store in memory: its own calls.
-/
import Derived.Test.YtmceoelafmlpjaaBase
namespace Go.Proofs.Ytmceoelafmlpjaa
open Go.RowKit

/-- A store: its block g; its bytes l, that lie in v; n of them last; its power; its fuse. -/
def St (w : World) (B g : Nat) (v : Value) (l : List UInt8) (n : Nat) (on : Bool) (f : Int) : Prop :=
  w.heap[g]? = some (.cells #[v, .int .i64 n, .bool on, .int .i64 f] 61 (0, 0)) ∧ w.ownsRow B 5 1 v l.length (Lib.byteCells l) ∧ B ≤ g ∧ v.ownBlock ≠ some g ∧ n ≤ l.length ∧ l.length ≤ 16777216 ∧ -1 ≤ f ∧ f ≤ 9223372036854775807 ∧ v.ownBlock ≠ none
/-- But for a store's block and its bytes all is as it was; its bytes lie where they lay, or in new memory. -/
def On (w w' : World) (g : Nat) (v v' : Value) : Prop := Fr w w' (some g) v.ownBlock ∧ ∀ k, v'.ownBlock = some k → v.ownBlock = some k ∨ w.heap.size ≤ k

section
variable {w w' w2 : World} {B g : Nat} {v v' v2 : Value} {l : List UInt8} {n : Nat} {on : Bool} {f : Int}
theorem St.lt (h : St w B g v l n on f) : g < w.heap.size := (Array.getElem?_eq_some_iff.1 h.1).1
theorem St.cell (h : St w B g v l n on f) : w.cell? ⟨g, 0, none⟩ = some v ∧ w.cell? ⟨g, 1, none⟩ = some (.int .i64 n) ∧ w.cell? ⟨g, 2, none⟩ = some (.bool on) ∧ w.cell? ⟨g, 3, none⟩ = some (.int .i64 f) := by
  refine ⟨?_, ?_, ?_, ?_⟩ <;> rw [cell_of_row w g _ _ 61 (0, 0) h.1] <;> rfl
theorem St.frozen (h : St w B g v l n on f) (k : Nat) : w.frozen? ⟨g, k, none⟩ = false := frozen_of_row w g k _ 61 h.1
theorem own_set (h : w.ownsRow B 5 1 v n (Lib.byteCells l)) (hne : v.ownBlock ≠ some g) (k : Nat) (u : Value) : (w.setCell ⟨g, k, none⟩ u).ownsRow B 5 1 v n (Lib.byteCells l) :=
  h.kept (grown_set w g k u) (.inr hne)
theorem St.set_n (h : St w B g v l n on f) {m : Nat} (hm : m ≤ l.length) : St (w.setCell ⟨g, 1, none⟩ (.int .i64 m)) B g v l m on f := by
  obtain ⟨h1, h2, h3, h4, h5, h6, h7, h8⟩ := h
  refine ⟨?_, own_set h2 h4 _ _, h3, h4, hm, h6, h7, h8⟩
  rw [heap_setCell_same w g 1 _ 61 _ h1]
  rfl
theorem St.set_on (h : St w B g v l n on f) (o : Bool) : St (w.setCell ⟨g, 2, none⟩ (.bool o)) B g v l n o f := by
  obtain ⟨h1, h2, h3, h4, h5, h6, h7, h8⟩ := h
  refine ⟨?_, own_set h2 h4 _ _, h3, h4, h5, h6, h7, h8⟩
  rw [heap_setCell_same w g 2 _ 61 _ h1]
  rfl
theorem St.set_f (h : St w B g v l n on f) (q : Int) (h0 : -1 ≤ q) (h1' : q ≤ 9223372036854775807) : St (w.setCell ⟨g, 3, none⟩ (.int .i64 q)) B g v l n on q := by
  obtain ⟨h1, h2, h3, h4, h5, h6, h7, h8⟩ := h
  refine ⟨?_, own_set h2 h4 _ _, h3, h4, h5, h6, h0, h1', h8.2⟩
  rw [heap_setCell_same w g 3 _ 61 _ h1]
  rfl
/-- Other bytes, that lie elsewhere. -/
theorem St.set_v {l' : List UInt8} (hb : w.heap[g]? = some (.cells #[v, .int .i64 n, .bool on, .int .i64 f] 61 (0, 0))) (ho : w.ownsRow B 5 1 v' l'.length (Lib.byteCells l')) (hB : B ≤ g) (hne : v'.ownBlock ≠ some g) (hn : n ≤ l'.length) (hl : l'.length ≤ 16777216) (h0 : -1 ≤ f) (h1 : f ≤ 9223372036854775807) (hs : v'.ownBlock ≠ none) :
    St (w.setCell ⟨g, 0, none⟩ v') B g v' l' n on f := by
  refine ⟨?_, own_set ho hne _ _, hB, hne, hn, hl, h0, h1, hs⟩
  rw [heap_setCell_same w g 0 _ 61 _ hb]
  rfl
theorem St.form (h : St w B g v l n on f) : ∃ gv c, v = .slice (some ⟨gv, 0, none⟩) l.length c ∧ l.length ≤ c ∧ c ≤ 9223372036854775807 := by
  rcases h.2.1.2 with ⟨rfl, _⟩ | ⟨gv, c, cur, rfl, _, _, h1, h2, _⟩
  · exact absurd rfl h.2.2.2.2.2.2.2.2
  · exact ⟨gv, c, rfl, h1, by unfold maxLen at h2; omega⟩
theorem own_cut {gv c m k : Nat} (h : w.ownsRow B 5 1 (.slice (some ⟨gv, 0, none⟩) m c) m (Lib.byteCells l)) (hk : k ≤ m) : w.ownsRow B 5 1 (.slice (some ⟨gv, 0, none⟩) k c) k (Lib.byteCells (l.take k)) := by
  have hlen := h.1
  rw [Lib.byteCells_length] at hlen
  rcases h.2 with ⟨h', _⟩ | ⟨gv', c', cur, h', hb, hg, h1, h2, h3, h4⟩
  · simp at h'
  · simp only [Value.slice.injEq, Option.some.injEq, Addr.mk.injEq, and_true, true_and] at h'
    obtain ⟨rfl, rfl⟩ := h'
    refine ⟨by rw [Lib.byteCells_length, List.length_take]; omega, .inr ⟨gv, c, cur, rfl, hb, hg, by omega, h2, h3, ?_⟩⟩
    have := congrArg (List.take k) h4
    rw [List.take_take, Nat.min_eq_left (by omega)] at this
    rw [Nat.mul_one, this]
    simp [Lib.byteCells]
theorem St.later (h : St w B g v l n on f) (hb : Below w.heap.size w w') : St w' B g v l n on f := by
  obtain ⟨h1, h2, h3⟩ := h
  exact ⟨(hb.block g (Array.getElem?_eq_some_iff.1 h1).1).trans h1, h2.kept (grown_later hb) (by cases v.ownBlock <;> simp), h3⟩
theorem On.refl (w : World) (g : Nat) (v : Value) : On w w g v v := ⟨Fr.refl _ _ _, fun _ h => .inl h⟩
theorem On.trans (h : On w w' g v v') (k : On w' w2 g v' v2) : On w w2 g v v2 := by
  obtain ⟨⟨a1, a2, a3, a4, a5⟩, a6⟩ := h
  obtain ⟨⟨b1, b2, b3, b4, b5⟩, b6⟩ := k
  refine ⟨⟨b1.trans a1, b2.trans a2, b3.trans a3, Nat.le_trans a4 b4, fun k hk h1 h2 => ?_⟩, fun k hk => ?_⟩
  · refine (b5 k (Nat.lt_of_lt_of_le hk a4) h1 (fun e => ?_)).trans (a5 k hk h1 h2)
    rcases a6 k e.symm with h | h
    · exact h2 h.symm
    · omega
  · rcases b6 k hk with h | h
    · exact a6 k h
    · exact .inr (Nat.le_trans a4 h)
theorem On.set (h : On w w' g v v') (k : Nat) (u : Value) : On w (w'.setCell ⟨g, k, none⟩ u) g v v' := ⟨h.1.grown (grown_set w' g k u) (fun _ _ e => .inl e.symm), h.2⟩
theorem On.later (h : On w w' g v v') (hb : Below w'.heap.size w' w2) : On w w2 g v v' := ⟨h.1.grown (grown_later hb) (fun _ _ e => by cases e), h.2⟩
theorem On.grown (h : On w w' g v v') (hg : w'.grownBy w2 v'.ownBlock) (h2 : v2.ownBlock = v'.ownBlock ∨ v2.ownBlock = some w'.heap.size) : On w w2 g v v2 := by
  refine ⟨h.1.grown hg (fun k hk e => ?_), fun k hk => ?_⟩
  · rcases h.2 k e with h | h
    · exact .inr h.symm
    · omega
  · rcases h2 with e | e
    · exact h.2 k (e ▸ hk)
    · rw [e] at hk
      cases hk
      exact .inr h.1.2.2.2.1
theorem On.below (h : On w w' g v v') (hs : St w B g v l n on f) : Below B w w' := by
  refine h.1.below (Below.refl B w) (Nat.le_trans hs.2.2.1 (Nat.le_of_lt hs.lt)) (fun k e => ?_) (fun k e => (hs.2.1.lt k e).1)
  cases e
  exact hs.2.2.1
theorem drew_below (w : World) : Below w.heap.size w w.drew := (Below.refl _ w).drew
end

/-! ### Calls that read -/
set_option maxHeartbeats 1000000 in
theorem copied_any (vb : Value) (b : List UInt8) (w : World) (h : Bs w vb b) (hl : b.length ≤ 140737488351232) :
    Calls Try.prog 32 #[vb] w fun e w' => e = .returned (.slice (some ⟨w.heap.size, 0, none⟩) b.length b.length) ∧ Row w' w.heap.size b ∧ Below w.heap.size w w' := by
  obtain ⟨i0, hi, hz0, hz1, hz2⟩ := info_parts info5
  obtain ⟨ao, c, rfl, h1, h2, h3⟩ := h
  have H3 := hide h3
  clear h3
  unfold maxLen at h2
  go_enter Try.func32, Try.ntmps32
  go_wp2_with (at_make; refine wpList_make_full _ rfl _ _ 22 rfl w.heap.size 5 i0 (.int .u8 0) 1 Try.underlying22 hi hz0 hz1 .i64 .i64 _ _ b.length rfl rfl ?c1 ?c2 ?c3 ?c4 ?c5 ?_)
  case c1 => omega
  case c2 => omega
  case c3 => rw [hz2]; omega
  case c4 => unfold maxLen; omega
  case c5 => omega
  intro w1 hown hgrow
  rw [made_bytes] at hown
  have hb1 : Below w.heap.size w w1 := (Below.refl _ _).grown hgrow (Nat.le_refl _) (by intro k hk; cases hk)
  have hr1 := (own_block hown).1
  clear hown hgrow
  have hsrc := Bs.src H3.out hb1 b.length (Nat.le_refl _)
  rw [List.take_length] at hsrc
  have HS := hide hsrc
  clear hsrc
  go_wp2_with (refine wpList_copy_splice rfl _ _ 22 22 rfl 5 Try.underlying22 size5 _ _ _ _ _ _ rfl rfl w.heap.size 0 (Lib.byteCells (List.replicate b.length 0)) 5 hr1 (Lib.byteCells b) ?d1 ?d2 ?d3 (byteCells_one b) w.heap.size w hb1 (Nat.le_refl _) ?_)
  case d1 => rw [Lib.byteCells_length]; simp
  case d2 => intro h0; rw [Lib.byteCells_length] at h0; first | exact ⟨rfl, HS.out h0⟩ | exact HS.out h0
  case d3 => simp [Lib.byteCells_length]
  intro w2 hr2 hb2
  have e : splice (Lib.byteCells (List.replicate b.length 0)) 0 (Lib.byteCells b) = Lib.byteCells b := by
    unfold splice
    simp [Lib.byteCells]
  rw [e] at hr2
  clear hr1 hb1 HS H3
  go_wp2
  go_ret
  exact ⟨rfl, hr2.out, hb2⟩
theorem row_own {w : World} {g B : Nat} {b : List UInt8} (h : Row w g b) (hB : B ≤ g) (hm : b.length ≤ maxLen) : w.ownsRow B 5 1 (.slice (some ⟨g, 0, none⟩) b.length b.length) b.length (Lib.byteCells b) :=
  ⟨by simp [Lib.byteCells_length], .inr ⟨g, b.length, _, rfl, hB, h, Nat.le_refl _, hm, by simp [Lib.byteCells_length], List.take_of_length_le (by simp [Lib.byteCells_length])⟩⟩

set_option maxHeartbeats 1000000 in
theorem new_big (vb : Value) (b : List UInt8) (w : World) (h : Bs w vb b) (hl : 16777216 < b.length) :
    Calls Try.prog 10 #[vb] w fun e w' => e = .returned (.tuple #[.pointer none, .int .i64 1]) ∧ w' = w := by
  obtain ⟨ao, c, rfl, h1, h2, h3⟩ := h
  clear h3
  unfold maxLen at h2
  have t1 : (b.length : Int) > 16777216 := by omega
  go_enter Try.func10, Try.ntmps10
  go_wp2_with fail
  go_ret2
  exact ⟨rfl, rfl⟩
set_option maxHeartbeats 1000000 in
theorem new_any (vb : Value) (b : List UInt8) (w : World) (h : Bs w vb b) (hl : b.length ≤ 16777216) :
    Calls Try.prog 10 #[vb] w fun e w' => ∃ g v, e = .returned (.tuple #[.pointer (some ⟨g, 0, none⟩), .int .i64 0]) ∧ St w' w.heap.size g v b b.length true (-1) ∧ Below w.heap.size w w' := by
  have hc := copied_any vb b w h (by omega)
  obtain ⟨ao, c, rfl, h1, h2, h3⟩ := h
  have HC := hide hc
  clear h3 hc
  unfold maxLen at h2
  have t1 : ¬ (b.length : Int) > 16777216 := by omega
  go_enter Try.func10, Try.ntmps10
  go_wp2_with fail
  refine HC.out.mono ?_
  rintro e w1 ⟨rfl, hr, hb⟩
  have HR := hide hr
  have HB := hide hb
  clear hr hb HC
  go_wp2_with fail
  go_ret2
  have hlt := HR.out.lt
  refine ⟨w1.heap.size, _, rfl, ⟨?_, (row_own (HR.out.below ((Below.refl _ w1).alloc (Nat.le_refl _) _) hlt) (Nat.le_refl _) (by unfold maxLen; omega)), HB.out.size, ?_, Nat.le_refl _, hl, by omega, by omega, by simp [Value.ownBlock]⟩, HB.out.trans ((Below.refl _ w1).alloc HB.out.size _)⟩
  · exact heap_alloc_new w1 _
  · simp [Value.ownBlock]
    omega

set_option maxHeartbeats 1000000 in
theorem bytes_on (g B : Nat) (v : Value) (l : List UInt8) (n : Nat) (f : Int) (w : World) (h : St w B g v l n true f) :
    Calls Try.prog 15 #[.pointer (some ⟨g, 0, none⟩)] w fun e w' => e = .returned (.slice (some ⟨w.heap.size, 0, none⟩) l.length l.length) ∧ Row w' w.heap.size l ∧ Below w.heap.size w w' := by
  have hc := copied_any v l w (own_bs h.2.1) (by have := h.2.2.2.2.2.1; omega)
  obtain ⟨c0, c1, c2, c3⟩ := h.cell
  obtain ⟨ao, c, rfl⟩ := own_len h.2.1
  have HC := hide hc
  have H := hide h
  clear hc h
  go_enter Try.func15, Try.ntmps15
  go_wp2_with fail
  refine HC.out.mono ?_
  rintro e w1 ⟨rfl, hr, hb⟩
  go_wp2_with fail
  go_ret
  exact ⟨rfl, hr, hb⟩
set_option maxHeartbeats 1000000 in
theorem bytes_off (g B : Nat) (v : Value) (l : List UInt8) (n : Nat) (f : Int) (w : World) (h : St w B g v l n false f) :
    Calls Try.prog 15 #[.pointer (some ⟨g, 0, none⟩)] w fun e w' => e = .returned (.slice none 0 0) ∧ w' = w := by
  obtain ⟨c0, c1, c2, c3⟩ := h.cell
  clear h
  go_enter Try.func15, Try.ntmps15
  go_wp2_with fail
  go_ret
  exact ⟨rfl, rfl⟩
set_option maxHeartbeats 1000000 in
theorem state_any (g B : Nat) (v : Value) (l : List UInt8) (n : Nat) (on : Bool) (f : Int) (w : World) (h : St w B g v l n on f) :
    Calls Try.prog 17 #[.pointer (some ⟨g, 0, none⟩)] w fun e w' => e = .returned (.tuple #[.int .i64 l.length, .int .i64 n, .bool on]) ∧ Below w.heap.size w w' := by
  obtain ⟨c0, c1, c2, c3⟩ := h.cell
  obtain ⟨ao, c, rfl⟩ := own_len h.2.1
  clear h
  go_enter Try.func17, Try.ntmps17
  go_wp2_with fail
  go_quiet (fail)
  go_wp2_with fail
  go_ret3
  exact ⟨rfl, below_drawn w nq⟩
set_option maxHeartbeats 1000000 in
theorem restart_any (g B : Nat) (v : Value) (l : List UInt8) (n : Nat) (on : Bool) (f : Int) (w : World) (h : St w B g v l n on f) :
    Calls Try.prog 16 #[.pointer (some ⟨g, 0, none⟩)] w fun e w' => e = .returned (.tuple #[]) ∧ St w' B g v l n true (-1) ∧ On w w' g v v := by
  obtain ⟨c0, c1, c2, c3⟩ := h.cell
  have z2 := h.frozen 2
  have z3 := h.frozen 3
  have H := hide h
  clear h
  go_enter Try.func16, Try.ntmps16
  go_wp2_with fail
  go_end0
  exact ⟨rfl, (H.out.set_on true).set_f (-1) (by omega) (by omega), ((On.refl w g v).set _ _).set _ _⟩
set_option maxHeartbeats 1000000 in
theorem fuse_off (g B : Nat) (v : Value) (l : List UInt8) (n : Nat) (f : Int) (q : Int) (w : World) (h : St w B g v l n false f) :
    Calls Try.prog 18 #[.pointer (some ⟨g, 0, none⟩), .int .i64 q] w fun e w' => e = .returned (.int .i64 30) ∧ w' = w := by
  obtain ⟨c0, c1, c2, c3⟩ := h.cell
  clear h
  go_enter Try.func18, Try.ntmps18
  go_wp2_with fail
  go_ret
  exact ⟨rfl, rfl⟩
set_option maxHeartbeats 1000000 in
theorem fuse_neg (g B : Nat) (v : Value) (l : List UInt8) (n : Nat) (f : Int) (q : Int) (w : World) (h : St w B g v l n true f) (hq : q < 0) :
    Calls Try.prog 18 #[.pointer (some ⟨g, 0, none⟩), .int .i64 q] w fun e w' => e = .returned (.int .i64 1) ∧ w' = w := by
  obtain ⟨c0, c1, c2, c3⟩ := h.cell
  clear h
  go_enter Try.func18, Try.ntmps18
  go_wp2_with fail
  go_ret
  exact ⟨rfl, rfl⟩
set_option maxHeartbeats 1000000 in
theorem fuse_any (g B : Nat) (v : Value) (l : List UInt8) (n : Nat) (f : Int) (q : Int) (w : World) (h : St w B g v l n true f) (hq : 0 ≤ q) (hq1 : q ≤ 9223372036854775807) :
    Calls Try.prog 18 #[.pointer (some ⟨g, 0, none⟩), .int .i64 q] w fun e w' => e = .returned (.int .i64 0) ∧ St w' B g v l n true q ∧ On w w' g v v := by
  obtain ⟨c0, c1, c2, c3⟩ := h.cell
  have z3 := h.frozen 3
  have H := hide h
  have t : ¬ q < 0 := by omega
  clear h
  go_enter Try.func18, Try.ntmps18
  go_wp2_with fail
  go_ret
  exact ⟨rfl, H.out.set_f q (by omega) hq1, (On.refl w g v).set _ _⟩
set_option maxHeartbeats 1000000 in
theorem sync_off (g B : Nat) (v : Value) (l : List UInt8) (n : Nat) (f : Int) (w : World) (h : St w B g v l n false f) :
    Calls Try.prog 13 #[.pointer (some ⟨g, 0, none⟩)] w fun e w' => e = .returned (.int .i64 30) ∧ w' = w := by
  obtain ⟨c0, c1, c2, c3⟩ := h.cell
  clear h
  go_enter Try.func13, Try.ntmps13
  go_wp2_with fail
  go_ret
  exact ⟨rfl, rfl⟩
set_option maxHeartbeats 1000000 in
theorem sync_any (g B : Nat) (v : Value) (l : List UInt8) (n : Nat) (f : Int) (w : World) (h : St w B g v l n true f) :
    Calls Try.prog 13 #[.pointer (some ⟨g, 0, none⟩)] w fun e w' => e = .returned (.int .i64 0) ∧ St w' B g v l l.length true f ∧ On w w' g v v := by
  obtain ⟨c0, c1, c2, c3⟩ := h.cell
  obtain ⟨ao, c, rfl⟩ := own_len h.2.1
  have z1 := h.frozen 1
  have H := hide h
  clear h
  go_enter Try.func13, Try.ntmps13
  go_wp2_with fail
  go_ret
  exact ⟨rfl, H.out.set_n (Nat.le_refl _), (On.refl w g _).set _ _⟩
set_option maxHeartbeats 1000000 in
theorem loose_any (g B : Nat) (v : Value) (l : List UInt8) (n : Nat) (on : Bool) (f : Int) (w : World) (h : St w B g v l n on f) :
    Calls Try.prog 34 #[.pointer (some ⟨g, 0, none⟩)] w fun e w' => e = .returned (.int .i64 ((l.length - n : Nat) : Int)) ∧ Below w.heap.size w w' := by
  obtain ⟨c0, c1, c2, c3⟩ := h.cell
  obtain ⟨ao, c, rfl⟩ := own_len h.2.1
  have hn := h.2.2.2.2.1
  have hl := h.2.2.2.2.2.1
  clear h
  go_enter Try.func34, Try.ntmps34
  go_wp2_with fail
  go_quiet (fail)
  go_wp2_with fail
  go_ret
  exact ⟨ret_int (by omega), below_drawn w nq⟩
end Go.Proofs.Ytmceoelafmlpjaa
