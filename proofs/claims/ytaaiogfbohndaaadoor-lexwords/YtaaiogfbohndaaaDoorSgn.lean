/-
  isNumber, signSize.
-/
import Derived.Test.YtaaiogfbohndaaaDoorSkip
import Derived.Test.YtaaiogfbohndaaaDoorNum
import Derived.Test.YtaaiogfbohndaaaDoorShelf
import Derived.Lib.AtoiErrMem
import Derived.LoopN
namespace Go.Proofs.YtaaiogfbohndaaaDoor
open Go.RowKit
set_option maxRecDepth 1000000

/-- The library's error of range has its value. -/
def Wd (w : World) : Prop := ∃ ev, w.cell? ⟨4, 0, none⟩ = some ev ∧ (ev = .nilIface ∨ ∃ te pe, ev = .iface te pe)
theorem Wd.lt {w : World} (h : Wd w) : 4 < w.heap.size := by
  obtain ⟨ev, h, _⟩ := h
  by_cases g : 4 < w.heap.size
  · exact g
  · have : w.heap[4]? = none := Array.getElem?_eq_none (by omega)
    simp [World.cell?, this] at h
theorem Wd.below {w w' : World} {n : Nat} (h : Wd w) (hn : 4 < n) (hb : Below n w w') : Wd w' := by
  obtain ⟨ev, h, h'⟩ := h
  refine ⟨ev, ?_, h'⟩
  rw [← h]
  exact hb.cell hn
theorem below_bytes (w : World) (t : ByteArray) : Below w.heap.size w (Lib.bytesWorld w 5 t) := by
  exact Lib.bytesWorld_below w 5 t

theorem isnumber_any (s : ByteArray) (hs : s.size ≤ 8000) (h0 : 0 < s.size) (hd : Dig s.data.toList) (w : World) (hw : Wd w) :
    Calls Tryd.prog 28 #[.string s] w fun e w' => e = .returned (.bool ((s.size == 1 || bt s 0 != 48) && decide (valL 0 s.data.toList < 9223372036854775808))) ∧ Below w.heap.size w w' := by
  have hne : s.data.toList ≠ [] := by
    intro h
    have h1 : s.data.toList.length = 0 := by rw [h]; rfl
    rw [Array.length_toList] at h1
    have h2 : s.size = 0 := h1
    omega
  have hp := parseInt_dig s.data.toList hd hne
  have b0 := bt_at s 0 h0
  by_cases hv : valL 0 s.data.toList < 9223372036854775808
  · rw [if_pos hv] at hp
    have c := Tryd.strconv_ParseInt_10_at64_ok s (by omega) _ hp
    go_enter Tryd.func28, Tryd.ntmps28
    go_wp2_with (go_at_call 44; refine (c _).mono ?_; rintro e w' ⟨rfl, hw'⟩)
    · rename_i h
      go_ret
      refine ⟨?_, Below.refl _ _⟩
      have e1 : bt s 0 = 48 := by
        rw [b0]
        have : ((s[0].toNat : Nat) : Int) = 48 := by simpa using h
        omega
      have e2 : ((s.size : Int) == 1) = (s.size == 1) := by
        rw [Bool.eq_iff_iff]; simp; omega
      rw [e1]
      show Ending.returned (Value.bool ((s.size : Int) == 1)) = _
      rw [e2]
      simp [hv]
    · rename_i h
      go_ret
      have e1 : bt s 0 ≠ 48 := by
        rw [b0]
        intro hh
        rw [hh] at h
        cases h
      refine ⟨?_, ?_⟩
      · show Ending.returned (Value.bool true) = _
        simp [e1, hv]
      · rcases hw' with rfl | ⟨t, rfl⟩
        · exact Below.refl _ _
        · exact below_bytes w t
  · rw [if_neg hv] at hp
    obtain ⟨ev, hc, hev⟩ := hw
    have c := Tryd.strconv_ParseInt_10_at64_range s (by omega) hp ev w hc hev
    go_enter Tryd.func28, Tryd.ntmps28
    go_wp2_with (go_at_call 44; refine c.mono ?_; rintro e w' ⟨N, rfl, hN, hN', hbl⟩)
    · rename_i h
      go_ret
      refine ⟨?_, Below.refl _ _⟩
      have e1 : bt s 0 = 48 := by
        rw [b0]
        have : ((s[0].toNat : Nat) : Int) = 48 := by simpa using h
        omega
      have e3 : s.size ≠ 1 := by
        intro h1
        obtain ⟨x, hx⟩ : ∃ x, s.data.toList = [x] := List.length_eq_one_iff.1 (by rw [Array.length_toList]; exact h1)
        have hx0 : x.toNat = 48 := by
          unfold bt at e1
          rw [hx] at e1
          exact e1
        rw [hx, valL_cons, valL_nil] at hv
        omega
      have e2 : ((s.size : Int) == 1) = false := by
        simp; omega
      show Ending.returned (Value.bool ((s.size : Int) == 1)) = _
      rw [e2]
      simp [hv]
    · rename_i h
      go_ret
      refine ⟨?_, hbl⟩
      show Ending.returned (Value.bool false) = _
      simp [hv]

theorem one_idx (c : Nat) (hc : c < 256) : decide (Lib.indexByte [43, 45, 42, 47, 37, 60, 62, 33, 61, 40, 41, 123, 125, 44, 59, 58, 63, 46] (c : Int).toNat.toUInt8 < 0) = !one c := by
  have : ∀ c : Fin 256, decide (Lib.indexByte [43, 45, 42, 47, 37, 60, 62, 33, 61, 40, 41, 123, 125, 44, 59, 58, 63, 46] c.val.toUInt8 < 0) = !one c.val := by decide
  exact this ⟨c, hc⟩

theorem signsize_any (s : ByteArray) (st : Nat) (hst : st < s.size) (_hs : s.size ≤ 8000) (w : World) :
    Calls Tryd.prog 29 #[.string (s.extract st s.size)] w fun e w' => e = .returned (.int .i64 (sgn (bt s st) (bt s (st + 1)) : Nat)) ∧ w' = w := by
  have hz : (s.extract st s.size).size = s.size - st := by simp
  have h0 : (s.extract st s.size)[0]'(by omega) = s[st] := by simp [ByteArray.getElem_extract]
  have c45 := Tryd.strings_IndexByte ⟨#[43, 45, 42, 47, 37, 60, 62, 33, 61, 40, 41, 123, 125, 44, 59, 58, 63, 46]⟩ (bt s st)
  have ho := one_idx (bt s st) (bt_lt s st)
  rw [show (⟨#[43, 45, 42, 47, 37, 60, 62, 33, 61, 40, 41, 123, 125, 44, 59, 58, 63, 46]⟩ : ByteArray).data.toList = [43, 45, 42, 47, 37, 60, 62, 33, 61, 40, 41, 123, 125, 44, 59, 58, 63, 46] from rfl] at c45
  generalize Lib.indexByte [43, 45, 42, 47, 37, 60, 62, 33, 61, 40, 41, 123, 125, 44, 59, 58, 63, 46] ((bt s st : Nat) : Int).toNat.toUInt8 = v at c45 ho
  rw [bt_at s st hst] at c45
  have x0 : ∀ w, (Instr.index 75 (.agg #[.string ⟨#[61, 61]⟩, .string ⟨#[33, 61]⟩, .string ⟨#[60, 61]⟩, .string ⟨#[62, 61]⟩, .string ⟨#[38, 38]⟩, .string ⟨#[124, 124]⟩]) (.int .i64 0)).run Tryd.prog w = .ok (.string ⟨#[61, 61]⟩) w := fun _ => by kernel_rfl
  have x1 : ∀ w, (Instr.index 75 (.agg #[.string ⟨#[61, 61]⟩, .string ⟨#[33, 61]⟩, .string ⟨#[60, 61]⟩, .string ⟨#[62, 61]⟩, .string ⟨#[38, 38]⟩, .string ⟨#[124, 124]⟩]) (.int .i64 1)).run Tryd.prog w = .ok (.string ⟨#[33, 61]⟩) w := fun _ => by kernel_rfl
  have x2 : ∀ w, (Instr.index 75 (.agg #[.string ⟨#[61, 61]⟩, .string ⟨#[33, 61]⟩, .string ⟨#[60, 61]⟩, .string ⟨#[62, 61]⟩, .string ⟨#[38, 38]⟩, .string ⟨#[124, 124]⟩]) (.int .i64 2)).run Tryd.prog w = .ok (.string ⟨#[60, 61]⟩) w := fun _ => by kernel_rfl
  have x3 : ∀ w, (Instr.index 75 (.agg #[.string ⟨#[61, 61]⟩, .string ⟨#[33, 61]⟩, .string ⟨#[60, 61]⟩, .string ⟨#[62, 61]⟩, .string ⟨#[38, 38]⟩, .string ⟨#[124, 124]⟩]) (.int .i64 3)).run Tryd.prog w = .ok (.string ⟨#[62, 61]⟩) w := fun _ => by kernel_rfl
  have x4 : ∀ w, (Instr.index 75 (.agg #[.string ⟨#[61, 61]⟩, .string ⟨#[33, 61]⟩, .string ⟨#[60, 61]⟩, .string ⟨#[62, 61]⟩, .string ⟨#[38, 38]⟩, .string ⟨#[124, 124]⟩]) (.int .i64 4)).run Tryd.prog w = .ok (.string ⟨#[38, 38]⟩) w := fun _ => by kernel_rfl
  have x5 : ∀ w, (Instr.index 75 (.agg #[.string ⟨#[61, 61]⟩, .string ⟨#[33, 61]⟩, .string ⟨#[60, 61]⟩, .string ⟨#[62, 61]⟩, .string ⟨#[38, 38]⟩, .string ⟨#[124, 124]⟩]) (.int .i64 5)).run Tryd.prog w = .ok (.string ⟨#[124, 124]⟩) w := fun _ => by kernel_rfl
  go_enter Tryd.func29, Tryd.ntmps29
  go_wp2
  refine wp_loop_rounds 7 ?_
  rw [rounds_succ]
  go_wp2_with (go_at_call 43; refine (hp_any s st _ _ (by decide) (by decide) _).mono ?_; rintro e w' ⟨rfl, rfl⟩)
  · rename_i h
    simp only [beq_iff_eq] at h
    go_ret
    refine ⟨?_, rfl⟩
    rw [show sgn (bt s st) (bt s (st + 1)) = 2 by rw [h.1, h.2]; decide]
    rfl
  rename_i g0
  rw [rounds_succ]
  go_wp2_with (go_at_call 43; refine (hp_any s st _ _ (by decide) (by decide) _).mono ?_; rintro e w' ⟨rfl, rfl⟩)
  · rename_i h
    simp only [beq_iff_eq] at h
    go_ret
    refine ⟨?_, rfl⟩
    rw [show sgn (bt s st) (bt s (st + 1)) = 2 by rw [h.1, h.2]; decide]
    rfl
  rename_i g1
  rw [rounds_succ]
  go_wp2_with (go_at_call 43; refine (hp_any s st _ _ (by decide) (by decide) _).mono ?_; rintro e w' ⟨rfl, rfl⟩)
  · rename_i h
    simp only [beq_iff_eq] at h
    go_ret
    refine ⟨?_, rfl⟩
    rw [show sgn (bt s st) (bt s (st + 1)) = 2 by rw [h.1, h.2]; decide]
    rfl
  rename_i g2
  rw [rounds_succ]
  go_wp2_with (go_at_call 43; refine (hp_any s st _ _ (by decide) (by decide) _).mono ?_; rintro e w' ⟨rfl, rfl⟩)
  · rename_i h
    simp only [beq_iff_eq] at h
    go_ret
    refine ⟨?_, rfl⟩
    rw [show sgn (bt s st) (bt s (st + 1)) = 2 by rw [h.1, h.2]; decide]
    rfl
  rename_i g3
  rw [rounds_succ]
  go_wp2_with (go_at_call 43; refine (hp_any s st _ _ (by decide) (by decide) _).mono ?_; rintro e w' ⟨rfl, rfl⟩)
  · rename_i h
    simp only [beq_iff_eq] at h
    go_ret
    refine ⟨?_, rfl⟩
    rw [show sgn (bt s st) (bt s (st + 1)) = 2 by rw [h.1, h.2]; decide]
    rfl
  rename_i g4
  rw [rounds_succ]
  go_wp2_with (go_at_call 43; refine (hp_any s st _ _ (by decide) (by decide) _).mono ?_; rintro e w' ⟨rfl, rfl⟩)
  · rename_i h
    simp only [beq_iff_eq] at h
    go_ret
    refine ⟨?_, rfl⟩
    rw [show sgn (bt s st) (bt s (st + 1)) = 2 by rw [h.1, h.2]; decide]
    rfl
  rename_i g5
  rw [rounds_succ]
  have ht : two (bt s st) (bt s (st + 1)) = false := by
    simp only [beq_eq_false_iff_ne, ne_eq] at g0 g1 g2 g3 g4 g5
    simp only [two, Bool.or_eq_false_iff, Bool.and_eq_false_iff, beq_eq_false_iff_ne, ne_eq]
    exact ⟨⟨⟨⟨⟨g0, g1⟩, g2⟩, g3⟩, g4⟩, g5⟩
  go_wp2_with (go_at_call 45; refine (c45 _).mono ?_; rintro e w' ⟨rfl, rfl⟩)
  · rename_i h
    go_ret
    refine ⟨?_, rfl⟩
    have ho' : one (bt s st) = false := by simpa using h
    unfold sgn
    rw [ht, ho']
    rfl
  · rename_i h
    go_ret
    refine ⟨?_, rfl⟩
    have ho' : one (bt s st) = true := by simpa using h
    unfold sgn
    rw [ht, ho']
    rfl
end Go.Proofs.YtaaiogfbohndaaaDoor
