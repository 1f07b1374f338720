/-
  Verify: world.New, as far as its error goes.
-/
import Derived.Test.YtklamaibinjcmaaDoorMgH
namespace Go.Proofs.YtklamaibinjcmaaDoor
open Go.RowKit
set_option maxRecDepth 100000
theorem idsnew_any (W : World) : Calls Tryd.prog 45 #[.int .i64 200] W fun e w' => (∃ g, e = .returned (.tuple #[.pointer (some ⟨g, 0, none⟩), .int .i64 0])) ∧ Below W.heap.size W w' := by
  go_enter Tryd.func45, Tryd.ntmps45
  go_wp2_with fail
  go_ret2
  exact ⟨⟨_, rfl⟩, below_alloc W _⟩
set_option maxHeartbeats 4000000 in
theorem wnew_any {W : World} {v : Value} {ks : List Kind} (h : Kr W v ks) : Calls Tryd.prog 28 #[v] W fun e w' => (∃ pv b, e = .returned (.tuple #[pv, .int .i64 (if b = true then 0 else 65)]) ∧ (b = true ↔ mayB ks)) ∧ Below W.heap.size W w' := by
  have H := hide h
  have J1 := hide (maybe_any h)
  have J2 : Hid (∀ V, Calls Tryd.prog 45 #[.int .i64 200] V fun e w' => (∃ g, e = .returned (.tuple #[.pointer (some ⟨g, 0, none⟩), .int .i64 0])) ∧ Below V.heap.size V w') := idsnew_any
  have hmm := @run_makeMap Tryd.prog
  obtain ⟨ao, c, rfl, h1, h2, -⟩ := h
  have h3 : c ≤ 9223372036854775807 := by unfold maxLen at h2; omega
  clear h2
  go_enter Tryd.func28, Tryd.ntmps28
  go_wp2_with fail
  refine J1.out.mono ?_
  rintro e w1 ⟨⟨b, rfl, hb⟩, b1⟩
  have HB := hide hb
  have B1 := hide b1
  clear hb b1 J1
  cases b with
  | false =>
    go_wp2_with fail
    go_ret2
    exact ⟨⟨_, false, rfl, HB.out⟩, B1.out⟩
  | true =>
    have hm := HB.out.1 rfl
    have J3 : Hid (∀ V, Below W.heap.size W V → Calls Tryd.prog 46 #[.slice ao ks.length c] V fun e w' => ∃ v', e = .returned v' ∧ Ko V.heap.size w' v' ks ∧ Below V.heap.size V w') := fun V hV => clone_kinds (H.out.later hV) (by have := hm.2.1; omega) (fun k hk => by have := (hm.2.2.1 k hk).1; omega)
    clear hm
    go_wp2_with fail
    refine (J2.out w1).mono ?_
    rintro e w2 ⟨⟨g, rfl⟩, b2⟩
    have B2 := hide (below_on B1.out b2)
    clear b2
    go_wp2_with fail
    refine (J3.out w2 B2.out).mono ?_
    rintro e w3 ⟨v3, rfl, ko, b3⟩
    have B3 := hide (below_on B2.out b3)
    obtain ⟨L, l1, -, -⟩ := ko
    obtain ⟨a3, c3, rfl⟩ := own_len l1
    clear l1 b3
    go_wp2_with fail
    go_ret2
    refine ⟨⟨_, true, rfl, by simpa using HB.out⟩, ?_⟩
    have b4 := below_alloc w3 (.map #[] 0)
    have b5 := below_alloc (w3.alloc (.map #[] 0)) (.map #[] 0)
    exact below_on B3.out (below_on (below_on b4 b5) (below_alloc _ _))
end Go.Proofs.YtklamaibinjcmaaDoor
