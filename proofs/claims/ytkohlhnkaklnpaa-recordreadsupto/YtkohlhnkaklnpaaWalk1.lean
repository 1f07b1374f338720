/-
  record.Walk: the function that it gives, and a loop over it.
-/
import Derived.Test.YtkohlhnkaklnpaaScan
import Derived.RangeFuncNested
import Derived.RangeFuncBound
import Derived.RangeFuncCalls
import Derived.RangeFuncLeaves
import Derived.Shelf.Abstract
import Derived.Shelf.RegionOpen
import Derived.WalkKit
import Derived.OwnWalkIn
import Derived.TacticsInMore
import Derived.LoopNIn
import Derived.LoopIn
namespace Go.Proofs.Ytkohlhnkaklnpaa
open Go.RowKit Go.Shelf
attribute [local go_sem] Oper.semAt_some

set_option maxHeartbeats 2000000 in
set_option maxRecDepth 100000 in
theorem walk_any (v : Value) (b : List UInt8) (w : World) (h : Bs w v b) (hn : NilOr v) (hl : b.length ≤ 140737488355328) :
    Calls Try.prog 21 #[v] w fun e w' => ∃ bx vo, e = .returned (.func (.func 32) #[] #[.pointer (some ⟨bx, 0, none⟩)]) ∧ w.heap.size ≤ bx ∧ w'.heap[bx]? = some (.cells #[vo] 22 (0, 0)) ∧ w'.ownsRow w.heap.size 5 1 vo b.length (Lib.byteCells b) ∧ Below w.heap.size w w' := by
  have hc := clone_any v b w h hn hl
  have HC := hide hc
  clear hc
  go_enter Try.func21, Try.ntmps21
  go_wp2_with fail
  refine HC.out.mono ?_
  rintro e w1 ⟨v1, rfl, ho, hb⟩
  obtain ⟨ao, c, rfl⟩ := own_len ho
  have HO := hide ho
  clear HC ho
  go_wp2_with fail
  go_ret
  exact ⟨w1.heap.size, _, rfl, hb.size, heap_alloc_new w1 _, HO.out.alloc _, hb.alloc hb.size _⟩

set_option maxHeartbeats 4000000 in
set_option maxRecDepth 100000 in
/-- The function that Walk gives: each record once, in their order, as long as it is asked. -/
theorem walk1_in (n l bx : Nat) (b : List UInt8) (vo : Value) (J Jx : List (List UInt8) → World → Prop) (W : World)
    (hvo : ∀ ds W', J ds W' → Bs W' vo b ∧ W'.cell? ⟨bx, 0, none⟩ = some vo) (hnil : NilOr vo)
    (hJ : ∀ ds W W', J ds W → Below W.heap.size W W' → J ds W')
    (hY : ∀ ds k v W1 W, J ds W1 → Below W1.heap.size W1 W → Rc.Told b ds k → (Rc.get (b.drop k)).2 ≠ 0 → Piece W W1.heap.size v (Rc.get (b.drop k)).1 → YieldAt Fence.wide (n - 1) Try.prog l #[.int .i64 k, v] W fun e W' =>
      (e = .returned (.bool true) ∧ J (ds ++ [(Rc.get (b.drop k)).1]) W') ∨ (e = .returned (.bool false) ∧ Jx (ds ++ [(Rc.get (b.drop k)).1]) W'))
    (h0 : J [] W) :
    CallsIn Fence.wide n Try.prog 32 #[.func (.yield l) #[] #[], .pointer (some ⟨bx, 0, none⟩)] W fun e W' => (∃ v, e = .returned v) ∧
      ((∃ ds k, Rc.Told b ds k ∧ (Rc.get (b.drop k)).2 = 0 ∧ J ds W') ∨ (∃ ds, Jx ds W')) := by
  have HVO := hide hvo
  have HJ := hide hJ
  have HY := hide hY
  have H0 := hide h0
  clear hvo hJ hY h0
  refine callsIn_of_wp Try.func32 rfl trivial ?_ rfl
  simp only [Try.ntmps32, List.size_toArray, List.length_cons, List.length_nil, Nat.reduceAdd, Nat.reduceSub, Array.replicate_succ, Array.replicate_zero, List.push_toArray, List.append_toArray, List.nil_append, List.cons_append]
  gi_wp2
  gi_loopw [3] (fun p wr => ∃ (ds : List (List UInt8)) (k : Nat), p = .int .i64 k ∧ Rc.Told b ds k ∧ Hid (J ds wr)) (fun p _ => b.length - (intOf p).toNat)
  case atStart => exact ⟨[], 0, rfl, .none, H0⟩
  case round =>
    obtain ⟨ds, k, rfl, ht, hj⟩ := hrel
    obtain ⟨hbs, hcell⟩ := HVO.out ds wr hj.out
    have hk := ht.le
    rcases hbs.parts with ⟨ao, c, rfl, rfl⟩ | ⟨g, o, c, rfl, hp, h1, h2, h3⟩
    · obtain rfl : k = 0 := by simpa using hk
      have hg := rget_any (.slice ao 0 c) [] wr hbs
      have hcm : c ≤ 9223372036854775807 := by
        obtain ⟨_, c', e, _, h, _⟩ := hbs
        simp only [Value.slice.injEq] at e
        obtain ⟨_, _, rfl⟩ := e
        unfold maxLen at h
        omega
      have HG := hide hg
      have HT := hide ht
      clear hg hbs ht
      rcases hnil with hn' | ⟨ad, m, c', hn'⟩
      · simp only [Value.slice.injEq] at hn'
        obtain ⟨rfl, _, rfl⟩ := hn'
        gi_wp2_with fail
        refine ⟨trivial, (fun h => by cases h), (callsIn_wide.2 HG.out).mono ?_⟩
        rintro e w2 ⟨v2, rfl, _, hb2⟩
        rw [show Rc.get [] = ([], 0) from rfl]
        have HB2 := hide hb2
        clear hb2 HG
        gi_wp2_with fail
        refine ⟨(fun _ h => by cases h), ?_⟩
        gi_wp2_with fail
        refine bodyPost_ret (results_none rfl _ _ _) rfl ?_
        exact ⟨⟨_, rfl⟩, .inl ⟨ds, 0, HT.out, rfl, HJ.out _ _ _ hj.out HB2.out⟩⟩
      · simp only [Value.slice.injEq] at hn'
        obtain ⟨rfl, rfl, rfl⟩ := hn'
        gi_wp2_with fail
        refine ⟨trivial, (fun h => by cases h), (callsIn_wide.2 HG.out).mono ?_⟩
        rintro e w2 ⟨v2, rfl, _, hb2⟩
        rw [show Rc.get [] = ([], 0) from rfl]
        have HB2 := hide hb2
        clear hb2 HG
        gi_wp2_with fail
        refine ⟨(fun _ h => by cases h), ?_⟩
        gi_wp2_with fail
        refine bodyPost_ret (results_none rfl _ _ _) rfl ?_
        exact ⟨⟨_, rfl⟩, .inl ⟨ds, 0, HT.out, rfl, HJ.out _ _ _ hj.out HB2.out⟩⟩
    · have hg := rget_any _ _ wr (Bs.drop (w := wr) k hk h1 h2 h3)
      clear h3 hbs
      unfold maxLen at h2
      have hkc : (k : Int) ≤ (c : Int) := by omega
      have hkl : (k : Int) ≤ (b.length : Int) := by omega
      have HT := hide ht
      clear ht
      by_cases hc : k = c
      · subst hc
        rw [if_pos rfl] at hg
        have e0 : b.drop k = [] := List.drop_eq_nil_of_le (by omega)
        have HG := hide hg
        have hlk : b.length - k = 0 := by omega
        clear hg
        gi_wp2_with fail
        refine ⟨trivial, (fun h => by cases h), (callsIn_wide.2 HG.out).mono ?_⟩
        rintro e w2 ⟨v2, rfl, _, hb2⟩
        have eg : Rc.get (b.drop k) = ([], 0) := by rw [e0]; rfl
        rw [eg]
        have EG := hide eg
        have HB2 := hide hb2
        clear eg hb2 HG e0
        gi_wp2_with fail
        refine ⟨(fun _ h => by cases h), ?_⟩
        gi_wp2_with fail
        refine bodyPost_ret (results_none rfl _ _ _) rfl ?_
        exact ⟨⟨_, rfl⟩, .inl ⟨ds, k, HT.out, by rw [EG.out], HJ.out _ _ _ hj.out HB2.out⟩⟩
      · rw [if_neg hc] at hg
        have hc' : ¬ c = k := fun e => hc e.symm
        have HG := hide hg
        clear hg
        gi_wp2_with fail
        refine ⟨trivial, (fun h => by cases h), (callsIn_wide.2 HG.out).mono ?_⟩
        rintro e w2 ⟨v2, rfl, hp2, hb2⟩
        by_cases hz : (Rc.get (b.drop k)).2 = 0
        · have z : (((Rc.get (b.drop k)).2 : Int) == 0) = true := by simp [hz]
          have HZ := hide hz
          have HB2 := hide hb2
          clear hz hb2 HG hp2
          gi_wp2_with fail
          refine ⟨(fun _ h => by cases h), ?_⟩
          gi_wp2_with fail
          refine bodyPost_ret (results_none rfl _ _ _) rfl ?_
          exact ⟨⟨_, rfl⟩, .inl ⟨ds, k, HT.out, HZ.out, HJ.out _ _ _ hj.out HB2.out⟩⟩
        · have z : (((Rc.get (b.drop k)).2 : Int) == 0) = false := by rw [beq_eq_false_iff_ne]; omega
          have hgl := Rc.get_le (b.drop k)
          rw [List.length_drop] at hgl
          have h7 := Rc.get_seven hz
          obtain ⟨fn, tmps, assign, body, hy, hR⟩ := HY.out ds k v2 wr w2 hj.out hb2 HT.out hz hp2
          have HN := hide (Rc.Told.more HT.out hz)
          clear hz hb2 HG hp2
          gi_wp2_with fail
          refine ⟨(fun h => by cases h), hR.mono ?_⟩
          rintro e W3 (⟨rfl, hJ3⟩ | ⟨rfl, hJx3⟩)
          · have HJ3 := hide hJ3
            clear hR hy hJ3
            gi_wp2_with fail
            refine ⟨⟨_, k + (Rc.get (b.drop k)).2, by go_num, HN.out, HJ3⟩, by simp [intOf]; omega⟩
          · clear hR hy
            gi_wp2_with fail
            refine bodyPost_ret (results_none rfl _ _ _) rfl ?_
            exact ⟨⟨_, rfl⟩, .inr ⟨_, hJx3⟩⟩
end Go.Proofs.Ytkohlhnkaklnpaa
