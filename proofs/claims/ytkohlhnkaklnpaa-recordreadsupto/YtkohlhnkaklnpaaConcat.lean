/-
  slices.Grow of nil, slices.Concat and bytes.Clone of bytes.
-/
import Derived.Test.YtkohlhnkaklnpaaAppBs
import Derived.Lib.AppendZerosOnto
import Derived.Lib.Walk
import Derived.Lib.SliceRun
namespace Go.Proofs.Ytkohlhnkaklnpaa
open Go.RowKit

set_option maxHeartbeats 2000000 in
set_option maxRecDepth 100000 in
theorem grow_zero (w : World) : Calls Try.prog 37 #[.slice none 0 0, .int .i64 0] w fun e w' => e = .returned (.slice none 0 0) ∧ w' = w := by
  go_enter Try.func37, Try.ntmps37
  go_wp2
  go_ret
  exact ⟨rfl, rfl⟩

set_option maxHeartbeats 2000000 in
set_option maxRecDepth 100000 in
theorem grow_some (n : Nat) (w : World) (h0 : 0 < n) (hn : n ≤ 140737488355328) :
    Calls Try.prog 37 #[.slice none 0 0, .int .i64 n] w fun e w' => ∃ v', e = .returned v' ∧ w'.ownsRow w.heap.size 5 1 v' 0 [] ∧ Below w.heap.size w w' := by
  obtain ⟨i0, hi, hz0, hz1, hz2⟩ := info_parts info5
  have hrz : ∀ ty, (Builtin.append_ #[22, 3] ty #[.slice none 0 0, .int .i64 (n : Int)]).run Try.prog w =
      .ok (.slice (some ⟨w.heap.size, 0, none⟩) n (grownCap w n 0 5)) (w.drew.alloc (.cells (#[] ++ Builtin.zeroCells (Value.int .u8 0).cells n ++ Builtin.zeroCells (Value.int .u8 0).cells (grownCap w n 0 5 - n)) 5)) := fun ty => by
    have h := Lib.run_append_grow_zeros (P := Try.prog) w 22 3 ty 5 i0 (.int .u8 0) .i64 .i64 Try.underlying22 Try.underlying3 hi hz0 none 0 0 [] (run_firstCells_none w.drew i0.size 0 0 0) n h0 (by omega) (by omega) (by omega) (by rw [hz2]; omega) (by rw [Nat.zero_add]; exact growslice_fits h0 (by rw [hz2]; omega))
    simpa using h
  have hG := grownCap_ge w n 0 5
  have hM := grownCap_le_maxLen w n 0 5 (by unfold maxLen; omega)
  have hM' : grownCap w n 0 5 ≤ 9223372036854775807 := by unfold maxLen at hM; omega
  generalize grownCap w n 0 5 = G at *
  have HM := hide hM
  clear hM
  go_enter Try.func37, Try.ntmps37
  go_wp2_with (at_builtin; refine Lib.wpList_append_run _ rfl _ _ _ _ rfl _ _ rfl rfl _ _ (hrz _) ?_)
  go_ret
  refine ⟨_, rfl, ⟨by simp, .inr ⟨w.heap.size, G, _, rfl, Nat.le_refl _, heap_alloc_new w.drew _, Nat.zero_le _, HM.out, ?_, by simp⟩⟩, ?_⟩
  · simp [Builtin.zeroCells]
    omega
  · exact ((Below.refl _ w).drew).alloc (Nat.le_refl _) _

theorem grow_any (n : Nat) (w : World) (hn : n ≤ 140737488355328) :
    Calls Try.prog 37 #[.slice none 0 0, .int .i64 n] w fun e w' => ∃ v', e = .returned v' ∧ w'.ownsRow w.heap.size 5 1 v' 0 [] ∧ Below w.heap.size w w' := by
  by_cases h0 : 0 < n
  · exact grow_some n w h0 hn
  · obtain rfl : n = 0 := by omega
    exact (grow_zero w).mono fun e w' ⟨he, hw⟩ => ⟨_, he, World.ownsRow_nil _ _ _ _, hw ▸ Below.refl _ _⟩

/-- How many bytes lists have together. -/
def total (ls : List (List UInt8)) : Nat := ls.flatten.length
theorem total_take (ls : List (List UInt8)) {k : Nat} (h : k < ls.length) : total (ls.take (k + 1)) = total (ls.take k) + ls[k].length := by
  rw [List.take_succ_eq_append_getElem h]
  simp only [total, List.flatten_append, List.flatten_cons, List.flatten_nil, List.append_nil, List.length_append]
theorem total_le (ls : List (List UInt8)) (k : Nat) : total (ls.take k) ≤ total ls := by
  have h := congrArg total (List.take_append_drop k ls)
  simp only [total, List.flatten_append, List.length_append] at h ⊢
  omega
theorem flatten_take (ls : List (List UInt8)) {k : Nat} (h : k < ls.length) : (ls.take (k + 1)).flatten = (ls.take k).flatten ++ ls[k] := by
  rw [List.take_succ_eq_append_getElem h]
  simp only [List.flatten_append, List.flatten_cons, List.flatten_nil, List.append_nil]

set_option maxHeartbeats 4000000 in
set_option maxRecDepth 100000 in
theorem concat_any (g c : Nat) (vs : Nat → Value) (ls : List (List UInt8)) (w : World) (hc : ls.length ≤ c) (hcm : c ≤ maxLen) (hcell : ∀ i, i < ls.length → w.cell? ⟨g, i, none⟩ = some (vs i)) (hb : ∀ i (h : i < ls.length), Bs w (vs i) ls[i] ∧ NilOr (vs i)) (ht : total ls ≤ 140737488355328) :
    Calls Try.prog 24 #[.slice (some ⟨g, 0, none⟩) ls.length c] w fun e w' => ∃ v', e = .returned v' ∧ w'.ownsRow w.heap.size 5 1 v' (total ls) (Lib.byteCells ls.flatten) ∧ Below w.heap.size w w' := by
  have HC := hide hcell
  have HB := hide hb
  clear hcell hb
  unfold maxLen at hcm
  go_enter Try.func24, Try.ntmps24
  go_wp2_with fail
  go_loopw [3, 11] (fun s i wr => wr = w ∧ ∃ k : Nat, k ≤ ls.length ∧ i = .int .i64 k ∧ s = .int .i64 (total (ls.take k))) (fun _ i _ => ls.length - (intOf i).toNat)
  case atStart => exact ⟨rfl, 0, Nat.zero_le _, rfl, rfl⟩
  case round =>
    obtain ⟨hw, k, hk, rfl, rfl⟩ := hrel
    obtain rfl := hw.symm
    have hle := total_le ls k
    by_cases hlt : k < ls.length
    · have hcl := HC.out k hlt
      obtain ⟨⟨ao, cc, hv, h1, h2, _⟩, _⟩ := HB.out k hlt
      have e1 : (k : Int) < (ls.length : Int) := by omega
      rw [hv] at hcl
      have hle1 := total_le ls (k + 1)
      rw [total_take ls hlt] at hle1
      have HT := hide (total_take ls hlt)
      unfold maxLen at h2
      have hn : ¬ ((total (ls.take k) : Int) + (ls[k].length : Int) < 0) := by omega
      clear hv
      go_wp2_with fail
      refine ⟨⟨trivial, k + 1, by omega, by go_num, ?_⟩, by simp [intOf]; omega⟩
      rw [HT.out]
      go_num
    · have e1 : ¬ (k : Int) < (ls.length : Int) := by omega
      obtain rfl : k = ls.length := by omega
      have e0 : total (ls.take ls.length) = total ls := by rw [List.take_length]
      rw [e0] at *
      clear e0
      go_wp2_with fail
      refine (grow_any (total ls) w ht).mono ?_
      rintro e w1 ⟨v1, rfl, ho1, hb1⟩
      have HO := hide ho1
      have HB1 := hide hb1
      clear ho1 hb1
      go_wp2_with fail
      go_loopw [6, 27] (fun v i w2 => ∃ k : Nat, k ≤ ls.length ∧ i = .int .i64 k ∧ w2.ownsRow w.heap.size 5 1 v (total (ls.take k)) (Lib.byteCells (ls.take k).flatten) ∧ Below w.heap.size w w2) (fun _ i _ => ls.length - (intOf i).toNat)
      case atStart => exact ⟨0, Nat.zero_le _, rfl, HO.out, HB1.out⟩
      case round =>
        obtain ⟨k, hk2, rfl, ho2, hb2⟩ := hrel
        have hle2 := total_le ls (k + 1)
        by_cases hlt : k < ls.length
        · have hcl := HC.out k hlt
          have hcl2 : wr.cell? ⟨g, k, none⟩ = some (vs k) := (hb2.cell (p := ⟨g, k, none⟩) (World.block_lt_of_cell? w _ hcl)).trans hcl
          obtain ⟨hbs, hnil⟩ := HB.out k hlt
          have hbs2 := hbs.below hb2 (Nat.le_refl _)
          have e2 : (k : Int) < (ls.length : Int) := by omega
          rw [total_take ls hlt] at hle2
          have HT := hide (total_take ls hlt)
          have HF := hide (flatten_take ls hlt)
          have hsz := hb2.size
          clear hcl hbs
          have e3 : ∃ ao cc, vs k = .slice ao ls[k].length cc := by obtain ⟨ao, cc, hv, _⟩ := hbs2; exact ⟨ao, cc, hv⟩
          obtain ⟨ao, cc, hv⟩ := e3
          rw [hv] at hcl2 hbs2 hnil
          clear hv
          go_wp2_with (at_builtin; refine wpList_append_bs _ rfl _ _ rfl w.heap.size _ _ _ rfl ho2 _ ls[k] rfl hbs2 hnil ?k1 ?k2 ?_)
          case k1 => omega
          case k2 => exact hsz
          intro v3 w3 ho3 hb3
          have HO3 := hide ho3
          clear ho3 ho2
          go_wp2_with fail
          go_roundw
          case rel =>
            refine ⟨k + 1, by omega, by go_num, ?_, hb2.trans hb3⟩
            have := HO3.out
            rw [HT.out, HF.out, Lib.byteCells_append]
            exact this
          case measure => simp [intOf]; omega
        · have e2 : ¬ (k : Int) < (ls.length : Int) := by omega
          obtain rfl : k = ls.length := by omega
          rw [List.take_length] at ho2
          go_wp2_with fail
          go_ret
          exact ⟨_, rfl, ho2, hb2⟩

set_option maxHeartbeats 2000000 in
set_option maxRecDepth 100000 in
theorem clone_any (v : Value) (l : List UInt8) (w : World) (h : Bs w v l) (hv : NilOr v) (hl : l.length ≤ 140737488355328) :
    Calls Try.prog 31 #[v] w fun e w' => ∃ v', e = .returned v' ∧ w'.ownsRow w.heap.size 5 1 v' l.length (Lib.byteCells l) ∧ Below w.heap.size w w' := by
  have q22 : ∀ (w : World) (a : Option Addr) (n c n' c' : Nat), (binOp .eql 22 (.slice a n c) (.slice none n' c')).run Try.prog w = .ok (.bool a.isNone) w := fun w a n c n' c' => Lib.run_eql_slice_nil w _ _ a n c n' c' Try.underlying22
  obtain ⟨ao, c, rfl, h1, h2, h3⟩ := h
  rcases hv with hv | ⟨ad, m, c', hv⟩
  · simp only [Value.slice.injEq] at hv
    obtain ⟨rfl, hl0, rfl⟩ := hv
    obtain rfl : l = [] := List.eq_nil_of_length_eq_zero hl0
    clear h3
    go_enter Try.func31, Try.ntmps31
    go_wp2
    go_ret
    exact ⟨_, rfl, World.ownsRow_nil _ _ _ _, Below.refl _ _⟩
  · simp only [Value.slice.injEq] at hv
    obtain ⟨rfl, rfl, rfl⟩ := hv
    have hbs : ∀ o, Bs (w.alloc o) (.slice (some ad) l.length c) l := fun o => (show Bs w (.slice (some ad) l.length c) l from ⟨_, _, rfl, h1, h2, h3⟩).below ((Below.refl w.heap.size w).alloc (Nat.le_refl _) o) (Nat.le_refl _)
    have HB := hide hbs
    clear hbs h3
    go_enter Try.func31, Try.ntmps31
    go_wp2_with (at_builtin; refine wpList_append_bs _ rfl _ _ rfl w.heap.size _ 0 [] rfl (World.ownsRow_made w #[] 0 (Nat.le_refl _) (Nat.zero_le _) rfl) _ l rfl (HB.out _) (.inr ⟨_, _, _, rfl⟩) ?k1 ?k2 ?_)
    case k1 => omega
    case k2 => simp
    intro v3 w3 ho3 hb3
    have HO3 := hide ho3
    clear ho3
    go_wp2
    go_ret
    exact ⟨_, rfl, by simpa using HO3.out, ((Below.refl w.heap.size w).alloc (Nat.le_refl _) _).trans hb3⟩
end Go.Proofs.Ytkohlhnkaklnpaa
