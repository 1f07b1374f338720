/-
  The document's store in memory: its own calls.
-/
import Derived.Test.YtmceoelafmlpjaaShown
namespace Go.Proofs.Ytmceoelafmlpjaa
open Go.RowKit
/-- Bytes that read on wherever they lie, if their block stays. -/
theorem Bs.kept {w w' : World} {v : Value} {l : List UInt8} (h : Bs w v l) (hs : ∀ k, v.ownBlock = some k → k < w.heap.size → w'.heap[k]? = w.heap[k]?) : Bs w' v l := by
  obtain ⟨ao, c, rfl, h1, h2, h3⟩ := h
  refine ⟨ao, c, rfl, h1, h2, fun j hj => ?_⟩
  obtain ⟨g, o, rfl, hc⟩ := h3 j hj
  exact ⟨g, o, rfl, (World.cell?_of_block (hs g rfl (World.block_lt_of_cell? w _ hc))).trans hc⟩
theorem Bs.set {w : World} {v : Value} {l : List UInt8} (h : Bs w v l) {g : Nat} (hne : v.ownBlock ≠ some g) (j : Nat) (u : Value) : Bs (w.setCell ⟨g, j, none⟩ u) v l :=
  h.kept (fun k hk _ => heap_setCell_other w ⟨g, j, none⟩ k u (fun e => hne (by rw [hk, e])))
/-- The document's store: its block; what lasts, what is loose; is its power off; its fuse. -/
def Ds (w : World) (B g : Nat) (u1 u2 : Value) (L O : List UInt8) (off : Bool) (f : Int) : Prop :=
  w.heap[g]? = some (.cells #[u1, u2, .bool off, .int .i64 f] 66 (0, 0)) ∧ (Bs w u1 L ∧ NilOr u1) ∧ (Bs w u2 O ∧ NilOr u2) ∧ B ≤ g ∧ (∀ k, u1.ownBlock = some k ∨ u2.ownBlock = some k → k ≠ g ∧ B ≤ k ∧ k < w.heap.size) ∧ -1 ≤ f ∧ f ≤ 9223372036854775807
/-- But for its block all is as it was; its bytes lie where they lay, or in new memory. -/
def Dn (w w' : World) (g : Nat) (u1 u2 v1 v2 : Value) : Prop := Fr w w' (some g) none ∧ ∀ k, v1.ownBlock = some k ∨ v2.ownBlock = some k → (u1.ownBlock = some k ∨ u2.ownBlock = some k) ∨ w.heap.size ≤ k
section
variable {w w' w2 : World} {B g : Nat} {u1 u2 v v1 v2 x1 x2 : Value} {L O l : List UInt8} {off : Bool} {f : Int}
theorem Ds.lt (h : Ds w B g u1 u2 L O off f) : g < w.heap.size := (Array.getElem?_eq_some_iff.1 h.1).1
theorem Ds.cell (h : Ds w B g u1 u2 L O off f) : w.cell? ⟨g, 0, none⟩ = some u1 ∧ w.cell? ⟨g, 1, none⟩ = some u2 ∧ w.cell? ⟨g, 2, none⟩ = some (.bool off) ∧ w.cell? ⟨g, 3, none⟩ = some (.int .i64 f) := by
  refine ⟨?_, ?_, ?_, ?_⟩ <;> rw [cell_of_row w g _ _ 66 (0, 0) h.1] <;> rfl
theorem Ds.frozen (h : Ds w B g u1 u2 L O off f) (k : Nat) : w.frozen? ⟨g, k, none⟩ = false := frozen_of_row w g k _ 66 h.1
theorem Ds.later (h : Ds w B g u1 u2 L O off f) (hb : Below w.heap.size w w') : Ds w' B g u1 u2 L O off f := by
  obtain ⟨h1, ⟨a1, a2⟩, ⟨b1, b2⟩, h4, h5, h6⟩ := h
  exact ⟨(hb.block g (Array.getElem?_eq_some_iff.1 h1).1).trans h1, ⟨a1.on hb, a2⟩, ⟨b1.on hb, b2⟩, h4, fun k hk => ⟨(h5 k hk).1, (h5 k hk).2.1, Nat.lt_of_lt_of_le (h5 k hk).2.2 hb.size⟩, h6⟩
theorem Ds.put1 (h : Ds w B g u1 u2 L O off f) (hv : Bs w v l) (hn : NilOr v) (hk : ∀ k, v.ownBlock = some k → k ≠ g ∧ B ≤ k ∧ k < w.heap.size) : Ds (w.setCell ⟨g, 0, none⟩ v) B g v u2 l O off f := by
  obtain ⟨h1, ⟨a1, a2⟩, ⟨b1, b2⟩, h4, h5, h6⟩ := h
  refine ⟨?_, ⟨hv.set (fun e => (hk g e).1 rfl) _ _, hn⟩, ⟨b1.set (fun e => (h5 g (.inr e)).1 rfl) _ _, b2⟩, h4, fun k e => ?_, h6⟩
  · rw [heap_setCell_same w g 0 _ 66 _ h1]
    rfl
  · rcases e with e | e
    · have := hk k e
      simpa using this
    · have := h5 k (.inr e)
      simpa using this
theorem Ds.put2 (h : Ds w B g u1 u2 L O off f) (hv : Bs w v l) (hn : NilOr v) (hk : ∀ k, v.ownBlock = some k → k ≠ g ∧ B ≤ k ∧ k < w.heap.size) : Ds (w.setCell ⟨g, 1, none⟩ v) B g u1 v L l off f := by
  obtain ⟨h1, ⟨a1, a2⟩, ⟨b1, b2⟩, h4, h5, h6⟩ := h
  refine ⟨?_, ⟨a1.set (fun e => (h5 g (.inl e)).1 rfl) _ _, a2⟩, ⟨hv.set (fun e => (hk g e).1 rfl) _ _, hn⟩, h4, fun k e => ?_, h6⟩
  · rw [heap_setCell_same w g 1 _ 66 _ h1]
    rfl
  · rcases e with e | e
    · have := h5 k (.inl e)
      simpa using this
    · have := hk k e
      simpa using this
theorem Ds.nil2 (h : Ds w B g u1 u2 L O off f) : Ds (w.setCell ⟨g, 1, none⟩ (.slice none 0 0)) B g u1 (.slice none 0 0) L [] off f :=
  h.put2 (Bs.nil w) (.inl rfl) (fun k hk => by simp [Value.ownBlock] at hk)
theorem Ds.set_off (h : Ds w B g u1 u2 L O off f) (o : Bool) : Ds (w.setCell ⟨g, 2, none⟩ (.bool o)) B g u1 u2 L O o f := by
  obtain ⟨h1, ⟨a1, a2⟩, ⟨b1, b2⟩, h4, h5, h6⟩ := h
  refine ⟨?_, ⟨a1.set (fun e => (h5 g (.inl e)).1 rfl) _ _, a2⟩, ⟨b1.set (fun e => (h5 g (.inr e)).1 rfl) _ _, b2⟩, h4, fun k e => by have := h5 k e; simpa using this, h6⟩
  rw [heap_setCell_same w g 2 _ 66 _ h1]
  rfl
theorem Ds.set_f (h : Ds w B g u1 u2 L O off f) (q : Int) (h0 : -1 ≤ q) (hq : q ≤ 9223372036854775807) : Ds (w.setCell ⟨g, 3, none⟩ (.int .i64 q)) B g u1 u2 L O off q := by
  obtain ⟨h1, ⟨a1, a2⟩, ⟨b1, b2⟩, h4, h5, h6⟩ := h
  refine ⟨?_, ⟨a1.set (fun e => (h5 g (.inl e)).1 rfl) _ _, a2⟩, ⟨b1.set (fun e => (h5 g (.inr e)).1 rfl) _ _, b2⟩, h4, fun k e => by have := h5 k e; simpa using this, h0, hq⟩
  rw [heap_setCell_same w g 3 _ 66 _ h1]
  rfl
theorem Dn.refl (w : World) (g : Nat) (u1 u2 : Value) : Dn w w g u1 u2 u1 u2 := ⟨Fr.refl _ _ _, fun _ h => .inl h⟩
theorem Dn.trans (h : Dn w w' g u1 u2 v1 v2) (k : Dn w' w2 g v1 v2 x1 x2) : Dn w w2 g u1 u2 x1 x2 := by
  obtain ⟨⟨a1, a2, a3, a4, a5⟩, a6⟩ := h
  obtain ⟨⟨b1, b2, b3, b4, b5⟩, b6⟩ := k
  refine ⟨⟨b1.trans a1, b2.trans a2, b3.trans a3, Nat.le_trans a4 b4, fun k hk h1 h2 => (b5 k (Nat.lt_of_lt_of_le hk a4) h1 h2).trans (a5 k hk h1 h2)⟩, fun k hk => ?_⟩
  rcases b6 k hk with h | h
  · exact a6 k h
  · exact .inr (Nat.le_trans a4 h)
theorem Dn.set (h : Dn w w' g u1 u2 v1 v2) (k : Nat) (u : Value) : Dn w (w'.setCell ⟨g, k, none⟩ u) g u1 u2 v1 v2 := ⟨h.1.grown (grown_set w' g k u) (fun _ _ e => .inl e.symm), h.2⟩
theorem Dn.later (h : Dn w w' g u1 u2 v1 v2) (hb : Below w'.heap.size w' w2) : Dn w w2 g u1 u2 v1 v2 := ⟨h.1.grown (grown_later hb) (fun _ _ e => by cases e), h.2⟩
theorem Dn.new1 (h : Dn w w' g u1 u2 v1 v2) (hv : ∀ k, v.ownBlock = some k → w.heap.size ≤ k) : Dn w w' g u1 u2 v v2 := ⟨h.1, fun k hk => by
  rcases hk with e | e
  · exact .inr (hv k e)
  · exact h.2 k (.inr e)⟩
theorem Dn.new2 (h : Dn w w' g u1 u2 v1 v2) (hv : ∀ k, v.ownBlock = some k → w.heap.size ≤ k) : Dn w w' g u1 u2 v1 v := ⟨h.1, fun k hk => by
  rcases hk with e | e
  · exact h.2 k (.inl e)
  · exact .inr (hv k e)⟩
end

set_option maxHeartbeats 1000000 in
theorem joined_any (va vb : Value) (a b : List UInt8) (w : World) (ha : Bs w va a) (hna : NilOr va) (hb : Bs w vb b) (hnb : NilOr vb) (hl : a.length + b.length ≤ 1000000000) :
    Calls Try.prog 35 #[va, vb] w fun e w' => ∃ ao c, e = .returned (.slice ao (a.length + b.length) c) ∧ w'.ownsRow w.heap.size 5 1 (.slice ao (a.length + b.length) c) (a.length + b.length) (Lib.byteCells (a ++ b)) ∧ Below w.heap.size w w' := by
  have HA := hide ha
  have HB := hide hb
  clear ha hb
  go_enter Try.func35, Try.ntmps35
  go_wp2_with (at_builtin; refine wpList_append_bs _ rfl _ _ rfl w.heap.size _ _ _ rfl (World.ownsRow_nil _ _ _ _) _ a rfl HA.out hna (by omega) (Nat.le_refl _) ?_)
  intro v1 w1 ho1 hb1
  have hb' := hide (HB.out.below hb1 (Nat.le_refl _))
  have hsz := hb1.size
  obtain ⟨ao1, c1, rfl⟩ := own_len ho1
  have HO1 := hide ho1
  have HB1 := hide hb1
  clear ho1 hb1
  go_wp2_with (at_builtin; refine wpList_append_bs _ rfl _ _ rfl w.heap.size _ _ _ rfl HO1.out _ b rfl hb'.out hnb (by omega) hsz ?_)
  intro v2 w2 ho2 hb2
  obtain ⟨ao2, c2, rfl⟩ := own_len ho2
  have HO2 := hide ho2
  have HB2 := hide (HB1.out.trans hb2)
  clear ho2 hb2
  go_wp2_with fail
  go_ret
  refine ⟨ao2, c2, rfl, ?_, HB2.out⟩
  rw [Lib.byteCells_append]
  exact HO2.out
/-- Joined beside a store. -/
theorem joined_ds {w : World} {B g : Nat} {u1 u2 : Value} {L O : List UInt8} {off : Bool} {f : Int} (h : Ds w B g u1 u2 L O off f) (W : World) (hW : Below w.heap.size w W) (va vb : Value) (a b : List UInt8) (ha : Bs W va a) (hna : NilOr va) (hb : Bs W vb b) (hnb : NilOr vb) (hl : a.length + b.length ≤ 1000000000) :
    Calls Try.prog 35 #[va, vb] W fun e w' => ∃ ao c, e = .returned (.slice ao (a.length + b.length) c) ∧ Hid (Ds w' B g u1 u2 L O off f ∧ Below w.heap.size w w' ∧ w'.ownsRow w.heap.size 5 1 (.slice ao (a.length + b.length) c) (a.length + b.length) (Lib.byteCells (a ++ b))) ∧ w'.cell? ⟨g, 0, none⟩ = some u1 ∧ w'.cell? ⟨g, 1, none⟩ = some u2 ∧ w'.frozen? ⟨g, 0, none⟩ = false ∧ w'.frozen? ⟨g, 1, none⟩ = false := by
  refine (joined_any va vb a b W ha hna hb hnb hl).mono ?_
  rintro e w' ⟨ao, c, rfl, ho, hb'⟩
  have hx := hW.trans (hb'.mono hW.size)
  have hd := h.later hx
  exact ⟨ao, c, rfl, ⟨hd, hx, own_lower ho hW.size⟩, hd.cell.1, hd.cell.2.1, hd.frozen 0, hd.frozen 1⟩
theorem new_block {w w' : World} {B g n : Nat} {v u1 u2 : Value} {L O : List UInt8} {off : Bool} {f : Int} {xs : List Value} (h : Ds w B g u1 u2 L O off f) (ho : w'.ownsRow w.heap.size 5 1 v n xs) : ∀ k, v.ownBlock = some k → k ≠ g ∧ B ≤ k ∧ k < w'.heap.size := fun k hk => by
  have h1 := ho.lt k hk
  have h2 := h.lt
  have h3 := h.2.2.2.1
  exact ⟨by omega, by omega, h1.2⟩

set_option maxHeartbeats 1000000 in
theorem dnew_any (vb : Value) (b : List UInt8) (w : World) (h : Bs w vb b) (hn : NilOr vb) (hl : b.length ≤ 16777216) :
    Calls Try.prog 21 #[vb] w fun e w' => ∃ g u1, e = .returned (.tuple #[.pointer (some ⟨g, 0, none⟩), .int .i64 0]) ∧ Ds w' w.heap.size g u1 (.slice none 0 0) b [] false (-1) ∧ Below w.heap.size w w' := by
  have hc := joined_any vb (.slice none 0 0) b [] w h hn (Bs.nil w) (.inl rfl) (by simp; omega)
  obtain ⟨ao, c, rfl, h1, h2, h3⟩ := h
  have HC := hide hc
  clear h3 hc
  unfold maxLen at h2
  have t1 : ¬ (b.length : Int) > 16777216 := by omega
  go_enter Try.func21, Try.ntmps21
  go_wp2_with fail
  refine HC.out.mono ?_
  rintro e w1 ⟨ao1, c1, rfl, ho, hb⟩
  have HO := hide ho
  have HB := hide hb
  clear ho hb HC
  go_wp2_with fail
  go_ret2
  rw [List.append_nil] at HO
  have hal : Below w1.heap.size w1 (w1.alloc (.cells #[.slice ao1 b.length c1, .slice none 0 0, .bool false, .int .i64 (-1)] 66)) := (Below.refl _ w1).alloc (Nat.le_refl _) _
  refine ⟨w1.heap.size, _, rfl, ⟨heap_alloc_new w1 _, ⟨(own_bs HO.out).on hal, own_nilOr HO.out⟩, ⟨Bs.nil _, .inl rfl⟩, HB.out.size, fun k hk => ?_, by omega, by omega⟩, HB.out.trans (hal.mono HB.out.size)⟩
  rcases hk with hk | hk
  · have := HO.out.lt k hk
    simp
    omega
  · simp [Value.ownBlock] at hk

set_option maxHeartbeats 1000000 in
theorem size_any {w0 : World} {B g : Nat} {u1 u2 : Value} {L O : List UInt8} {off : Bool} {f : Int} (w : World) (h : Ds w B g u1 u2 L O off f) (hl : L.length + O.length ≤ 1000000000) (hw : Below w0.heap.size w0 w) :
    Calls Try.prog 36 #[.pointer (some ⟨g, 0, none⟩)] w fun e w' => e = .returned (.int .i64 ((L.length + O.length : Nat) : Int)) ∧ Below w.heap.size w w' ∧ Below w0.heap.size w0 w' := by
  obtain ⟨c0, c1, c2, c3⟩ := h.cell
  obtain ⟨-, ⟨⟨ao1, cc1, rfl, -, -, -⟩, -⟩, ⟨⟨ao2, cc2, rfl, -, -, -⟩, -⟩, -⟩ := h
  have HW := hide hw
  clear hw
  go_enter Try.func36, Try.ntmps36
  go_wp2_with fail
  go_quiet (fail)
  go_wp2_with fail
  go_ret
  exact ⟨ret_int (by omega), below_drawn w nq, HW.out.trans ((below_drawn w nq).mono HW.out.size)⟩
set_option maxHeartbeats 1000000 in
theorem drestart_any {B g : Nat} {u1 u2 : Value} {L O : List UInt8} {off : Bool} {f : Int} (w : World) (h : Ds w B g u1 u2 L O off f) :
    Calls Try.prog 30 #[.pointer (some ⟨g, 0, none⟩)] w fun e w' => e = .returned (.tuple #[]) ∧ Ds w' B g u1 u2 L O false (-1) ∧ Dn w w' g u1 u2 u1 u2 := by
  obtain ⟨c0, c1, c2, c3⟩ := h.cell
  have z2 := h.frozen 2
  have z3 := h.frozen 3
  have H := hide h
  clear h
  go_enter Try.func30, Try.ntmps30
  go_wp2_with fail
  go_end0
  exact ⟨rfl, (H.out.set_off false).set_f (-1) (by omega) (by omega), ((Dn.refl w g u1 u2).set _ _).set _ _⟩
set_option maxHeartbeats 1000000 in
theorem dfuse_any {B g : Nat} {u1 u2 : Value} {L O : List UInt8} {off : Bool} {f : Int} (q : Int) (w : World) (h : Ds w B g u1 u2 L O off f) (hq1 : q ≤ 9223372036854775807) :
    Calls Try.prog 28 #[.pointer (some ⟨g, 0, none⟩), .int .i64 q] w fun e w' => e = .returned (.int .i64 (if off then 30 else if q < 0 then 1 else 0)) ∧ Ds w' B g u1 u2 L O off (if off then f else if q < 0 then f else q) ∧ Dn w w' g u1 u2 u1 u2 := by
  obtain ⟨c0, c1, c2, c3⟩ := h.cell
  have z3 := h.frozen 3
  have H := hide h
  clear h
  cases off with
  | true =>
    go_enter Try.func28, Try.ntmps28
    go_wp2_with fail
    go_ret
    exact ⟨rfl, H.out, Dn.refl _ _ _ _⟩
  | false =>
    by_cases t : q < 0
    · go_enter Try.func28, Try.ntmps28
      go_wp2_with fail
      go_ret
      exact ⟨rfl, H.out, Dn.refl _ _ _ _⟩
    · go_enter Try.func28, Try.ntmps28
      go_wp2_with fail
      go_ret
      exact ⟨rfl, H.out.set_f q (by omega) hq1, (Dn.refl w g u1 u2).set _ _⟩
set_option maxHeartbeats 2000000 in
theorem dbytes_any {B g : Nat} {u1 u2 : Value} {L O : List UInt8} {off : Bool} {f : Int} (w : World) (h : Ds w B g u1 u2 L O off f) (hl : L.length + O.length ≤ 1000000000) :
    Calls Try.prog 26 #[.pointer (some ⟨g, 0, none⟩)] w fun e w' => ∃ v, e = .returned v ∧ (Bs w' v (if off then [] else L ++ O) ∧ NilOr v) ∧ Below w.heap.size w w' := by
  obtain ⟨c0, c1, c2, c3⟩ := h.cell
  have H := hide h
  obtain ⟨-, ⟨⟨ao1, cc1, rfl, -, -, -⟩, -⟩, ⟨⟨ao2, cc2, rfl, -, -, -⟩, -⟩, -⟩ := h
  cases off with
  | true =>
    go_enter Try.func26, Try.ntmps26
    go_wp2_with fail
    go_ret
    exact ⟨_, rfl, ⟨Bs.nil _, .inl rfl⟩, Below.refl _ _⟩
  | false =>
    have J : Hid (∀ W, Below w.heap.size w W → Calls Try.prog 35 #[.slice ao1 L.length cc1, .slice ao2 O.length cc2] W fun e w' => ∃ ao c, e = .returned (.slice ao (L.length + O.length) c) ∧ Hid (Below w.heap.size w w' ∧ w'.ownsRow w.heap.size 5 1 (.slice ao (L.length + O.length) c) (L.length + O.length) (Lib.byteCells (L ++ O)))) := fun W hW =>
      (joined_ds H.out W hW _ _ L O (H.out.2.1.1.on hW) H.out.2.1.2 (H.out.2.2.1.1.on hW) H.out.2.2.1.2 hl).mono (by
        rintro e w' ⟨ao, c, rfl, hh, _⟩
        exact ⟨ao, c, rfl, hh.out.2⟩)
    go_enter Try.func26, Try.ntmps26
    go_wp2_with fail
    go_region_with (go_at_call 35; refine (J.out _ ?_).mono ?_; exact ⟨rfl, rfl, rfl, Nat.le_refl _, fun _ _ => rfl⟩; rintro e w1 ⟨ao, c, rfl, HH⟩)
    all_goals
      go_wp2_with fail
      go_ret
      exact ⟨_, rfl, ⟨own_bs HH.out.2, own_nilOr HH.out.2⟩, HH.out.1⟩
set_option maxHeartbeats 2000000 in
theorem dstate_any {B g : Nat} {u1 u2 : Value} {L O : List UInt8} {off : Bool} {f : Int} (w : World) (h : Ds w B g u1 u2 L O off f) (hl : L.length + O.length ≤ 1000000000) :
    Calls Try.prog 31 #[.pointer (some ⟨g, 0, none⟩)] w fun e w' => e = .returned (.tuple #[.int .i64 ((L.length + O.length : Nat) : Int), .int .i64 L.length, .bool (!off)]) ∧ Below w.heap.size w w' := by
  obtain ⟨c0, c1, c2, c3⟩ := h.cell
  have hlt := h.lt
  have H := hide h
  obtain ⟨-, ⟨⟨ao1, cc1, rfl, -, -, -⟩, -⟩, ⟨⟨ao2, cc2, rfl, -, -, -⟩, -⟩, -⟩ := h
  have J : Hid (∀ W, Below w.heap.size w W → Calls Try.prog 36 #[.pointer (some ⟨g, 0, none⟩)] W fun e w' => e = .returned (.int .i64 ((L.length + O.length : Nat) : Int)) ∧ Hid (Below w.heap.size w w') ∧ w'.cell? ⟨g, 0, none⟩ = some (.slice ao1 L.length cc1) ∧ w'.cell? ⟨g, 2, none⟩ = some (.bool off)) := fun W hW =>
    (size_any (w0 := w) W (H.out.later hW) hl hW).mono (by
      rintro e w' ⟨rfl, hb, hb2⟩
      have := (H.out.later hb2).cell
      exact ⟨rfl, hb2, this.1, this.2.2.1⟩)
  go_enter Try.func31, Try.ntmps31
  go_wp2_with fail
  go_region_with (go_at_call 36; refine (J.out _ ?_).mono ?_; exact ⟨rfl, rfl, rfl, Nat.le_refl _, fun _ _ => rfl⟩; rintro e w1 ⟨rfl, HH, d0, d2⟩)
  all_goals
    go_wp2_with fail
    go_ret3
    exact ⟨rfl, HH.out⟩
set_option maxHeartbeats 2000000 in
set_option maxRecDepth 100000 in
theorem dsync_any {B g : Nat} {u1 u2 : Value} {L O : List UInt8} {off : Bool} {f : Int} (w : World) (h : Ds w B g u1 u2 L O off f) (hl : L.length + O.length ≤ 1000000000) :
    Calls Try.prog 23 #[.pointer (some ⟨g, 0, none⟩)] w fun e w' => e = .returned (.int .i64 (if off then 30 else 0)) ∧ ∃ v1 v2, Ds w' B g v1 v2 (if off then L else L ++ O) (if off then O else []) off f ∧ Dn w w' g u1 u2 v1 v2 := by
  obtain ⟨c0, c1, c2, c3⟩ := h.cell
  have H := hide h
  have z0 := h.frozen 0
  obtain ⟨-, ⟨⟨ao1, cc1, rfl, -, -, -⟩, -⟩, ⟨⟨ao2, cc2, rfl, -, -, -⟩, -⟩, -⟩ := h
  cases off with
  | true =>
    go_enter Try.func23, Try.ntmps23
    go_wp2_with fail
    go_ret
    exact ⟨rfl, _, _, H.out, Dn.refl _ _ _ _⟩
  | false =>
    have J : Hid (∀ W, Below w.heap.size w W → _) := fun W hW => joined_ds H.out W hW _ _ L O (H.out.2.1.1.on hW) H.out.2.1.2 (H.out.2.2.1.1.on hW) H.out.2.2.1.2 hl
    go_enter Try.func23, Try.ntmps23
    go_wp2_with fail
    go_region_with (go_at_call 35; refine (J.out _ ?_).mono ?_; exact ⟨rfl, rfl, rfl, Nat.le_refl _, fun _ _ => rfl⟩; rintro e w1 ⟨ao, c, rfl, HH, d0, d1, y0, y1⟩)
    all_goals
      have hS := HH.out.1.put1 (own_bs HH.out.2.2) (own_nilOr HH.out.2.2) (new_block H.out HH.out.2.2)
      have d1' := hS.cell.2.1
      have y1' := hS.frozen 1
      have HS := hide hS
      clear hS d0 d1 y0 y1 c0 c1 c2 c3 z0 J
      go_wp2_with fail
      go_ret
      exact ⟨rfl, _, _, HS.out.nil2, Dn.set (Dn.set (Dn.new2 (Dn.new1 ((Dn.refl w g _ _).later HH.out.2.1) (fun k hk => (HH.out.2.2.lt k hk).1)) (fun k hk => by simp [Value.ownBlock] at hk)) _ _) _ _⟩
end Go.Proofs.Ytmceoelafmlpjaa
