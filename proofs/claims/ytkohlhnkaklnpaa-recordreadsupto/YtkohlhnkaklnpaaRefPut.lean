import Derived.Test.YtkohlhnkaklnpaaAppBs
import Derived.Test.YtkohlhnkaklnpaaPut
/-
  The document's Put and PutInt.
-/
namespace Go.Proofs.Ytkohlhnkaklnpaa
open Go.RowKit

set_option maxHeartbeats 8000000 in
set_option maxRecDepth 100000 in
theorem rput_any (v : Value) (l : List UInt8) (x : Nat) (w : World) (h : Bs w v l) (hv : NilOr v) (hx : x < 18446744073709551616) (hl : l.length + 20 ≤ 140737488355328) :
    Calls Try.prog 38 #[v, .int .u64 x] w fun e w' => ∃ v', e = .returned v' ∧ w'.ownsRow w.heap.size 5 1 v' (l.length + (Lib.uvarint x).length) (Lib.byteCells (l ++ Lib.uvarint x)) ∧ Below w.heap.size w w' := by
  obtain ⟨i0, hi, hz0, hz1, hz2⟩ := info_parts info5
  have hlen := Lib.uvarint_length64 hx
  go_enter Try.func38, Try.ntmps38
  go_wp2_with (at_builtin; refine wpList_append_bs _ rfl _ _ rfl w.heap.size _ 0 [] rfl (World.ownsRow_nil _ _ _ _) _ l rfl h hv ?a1 ?a2 ?_)
  case a1 => omega
  case a2 => exact Nat.le_refl _
  intro v1 w1 hown0 hb1
  go_wp2
  go_loopw [5, 1] (fun vb vx wr => ∃ (y : Nat) (pre : List UInt8), vx = .int .u64 y ∧ y ≤ x ∧ Hid (Lib.uvarint x = pre ++ Lib.uvarint y) ∧ wr.ownsRow w.heap.size 5 1 vb (l.length + pre.length) (Lib.byteCells (l ++ pre)) ∧ Below w.heap.size w wr)
    (fun _ vx _ => (intOf vx).toNat)
  case atStart => exact ⟨x, [], rfl, Nat.le_refl _, rfl, by simpa using hown0, hb1⟩
  case round =>
    obtain ⟨y, pre, rfl, hy, HS, hown1, hnx⟩ := hrel
    have hpl : pre.length ≤ 9 := by
      have h2 := congrArg List.length HS.out
      have hyp := Lib.uvarint_pos y
      rw [List.length_append] at h2
      omega
    by_cases h128 : 128 ≤ y
    · have hge : (128 : Int) ≤ (y : Int) := by omega
      have hw : ((y : Int) % 128 + 128) % 256 = ((y % 128 + 128 : Nat) : Int) := by omega
      go_wp2_with (at_builtin; refine wpList_append_own _ rfl _ _ 22 rfl w.heap.size 5 i0 (.int .u8 0) 1 1 Try.underlying22 hi hz0 hz1 hz2 rfl (by decide) _ _ _ rfl (hown1.alloc _) ⟨wr.heap.size, 0, none⟩ 1 1 [Value.int .u8 ((y % 128 + 128 : Nat) : Int)] rfl rfl ?c1 ?c2 ?c3 ?c4 ?c5 ?_)
      case c1 =>
        intro j u hj
        match j, hj with
        | 0, hj => simp at hj; subst hj; simp [Addr.add]
      case c2 => intro u hu; simp at hu; subst hu; rfl
      case c3 => unfold maxLen; omega
      case c4 => omega
      case c5 => have := hnx.size; simp; omega
      intro v' w2 hown' hgrow _
      have hnx1 : Below w.heap.size w w2 := (hnx.alloc (by have := hnx.size; omega) _).grown hgrow (by have := hnx.size; simp; omega) (fun k hk => (hown1.lt k hk).1)
      go_wp2
      go_roundw
      case rel =>
        refine ⟨y / 128, pre ++ [(y % 128 + 128).toUInt8], by go_num, by omega, by show Lib.uvarint x = _; rw [HS.out, Lib.uvarint_big h128]; simp, ?_, hnx1⟩
        have ec : ((y % 128 + 128 : Nat) : Int) = (y : Int) % 128 + 128 := by omega
        rw [← List.append_assoc, Lib.byteCells_snoc (l ++ pre) (by omega), List.length_append, List.length_singleton, ← Nat.add_assoc, ec]
        simpa using hown'
      case measure => simp [intOf]; omega
    · have hge : ¬ (128 : Int) ≤ (y : Int) := by omega
      have HM := hide (Lib.uvarint_small (show y < 128 by omega))
      go_wp2_with (at_builtin; refine wpList_append_own _ rfl _ _ 22 rfl w.heap.size 5 i0 (.int .u8 0) 1 1 Try.underlying22 hi hz0 hz1 hz2 rfl (by decide) _ _ _ rfl (hown1.alloc _) ⟨wr.heap.size, 0, none⟩ 1 1 [Value.int .u8 (y : Int)] rfl rfl ?d1 ?d2 ?d3 ?d4 ?d5 ?_)
      case d2 => first | rfl | (intro u hu; simp at hu; subst hu; rfl) | simp [Value.oneCell']
      case d3 => unfold maxLen; omega
      case d4 => omega
      case d5 => have := hnx.size; simp; omega
      intro v' w2 hown' hgrow _
      have hnx1 : Below w.heap.size w w2 := (hnx.alloc (by have := hnx.size; omega) _).grown hgrow (by have := hnx.size; simp; omega) (fun k hk => (hown1.lt k hk).1)
      go_wp2
      go_ret
      refine ⟨v', rfl, ?_, hnx1⟩
      rw [HS.out, HM.out, ← List.append_assoc, Lib.byteCells_snoc (l ++ pre) (by omega), List.length_append, List.length_singleton, ← Nat.add_assoc]
      simpa using hown'

end Go.Proofs.Ytkohlhnkaklnpaa
