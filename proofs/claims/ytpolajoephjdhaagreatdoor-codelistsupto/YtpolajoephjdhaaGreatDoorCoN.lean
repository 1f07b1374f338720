/-
  Numbers in digits, read; readNumber.
-/
import Derived.Test.YtpolajoephjdhaaGreatDoorCoL
import Derived.Lib.ParseIntB
import Derived.Lib.AtoiErrMem
namespace Go.Proofs.YtpolajoephjdhaaGreatDoor
open Go.RowKit
set_option maxRecDepth 100000
def rdN (l : List UInt8) : Int := match Lib.parseIntB 64 l with
  | .ok v => v
  | .«syntax» => 0
  | .range => Lib.intSat 64 l
theorem sat_i6 (l : List UInt8) : I6 (Lib.intSat 64 l) := by
  unfold Lib.intSat I6
  split <;> omega
theorem ok_i6 {l : List UInt8} {v : Int} (h : Lib.parseIntB 64 l = .ok v) : I6 v := by
  unfold Lib.parseIntB at h
  split at h
  · cases h
  · dsimp only at h
    split at h
    · cases h
    · cases h
    · rename_i u hu
      split at h
      · cases h
      · split at h
        · cases h
        · rename_i h1 h2
          injection h with h
          subst h
          unfold I6
          split
          · rename_i h3
            have : ¬ 2 ^ (64 - 1) < u := fun e => h2 ⟨h3, e⟩
            omega
          · rename_i h3
            have : ¬ 2 ^ (64 - 1) ≤ u := fun e => h1 ⟨h3, e⟩
            omega
theorem rdN_i6 (l : List UInt8) : I6 (rdN l) := by
  unfold rdN
  split
  · rename_i v h; exact ok_i6 h
  · exact ⟨by omega, by omega⟩
  · exact sat_i6 l
theorem parse_any (s : ByteArray) (hs : s.size ≤ 281474976710656) (w : World) (hw : Wd w) : Calls Tryz.prog 102 #[.string s, .int .i64 10, .int .i64 64] w fun e w' => ∃ ve, e = .returned (.tuple #[.int .i64 (rdN s.data.toList), ve]) ∧ Below w.heap.size w w' := by
  cases h : Lib.parseIntB 64 s.data.toList with
  | ok v =>
    have e : rdN s.data.toList = v := by unfold rdN; rw [h]
    rw [e]
    refine (Tryz.strconv_ParseInt_10_at64_ok s (by omega) v h w).mono ?_
    rintro e w' ⟨rfl, hw'⟩
    refine ⟨_, rfl, ?_⟩
    rcases hw' with rfl | ⟨x, rfl⟩
    · exact Below.refl _ _
    · exact Lib.bytesWorld_below w 5 x
  | «syntax» =>
    have e : rdN s.data.toList = 0 := by unfold rdN; rw [h]
    rw [e]
    obtain ⟨ev, h1, h2⟩ := hw 3 (.inl rfl)
    refine (Tryz.strconv_ParseInt_10_at64_syntax s hs h ev w h1 h2).mono ?_
    rintro e w' ⟨N, rfl, -, -, hb⟩
    exact ⟨_, rfl, hb⟩
  | range =>
    have e : rdN s.data.toList = Lib.intSat 64 s.data.toList := by unfold rdN; rw [h]
    rw [e]
    obtain ⟨ev, h1, h2⟩ := hw 4 (.inr rfl)
    refine (Tryz.strconv_ParseInt_10_at64_range s hs h ev w h1 h2).mono ?_
    rintro e w' ⟨N, rfl, -, -, hb⟩
    exact ⟨_, rfl, hb⟩
theorem readnum_any (s : ByteArray) (hs : s.size ≤ 281474976710656) (w : World) (hw : Wd w) : Calls Tryz.prog 82 #[.string s] w fun e w' => e = .returned (.int .i64 (rdN s.data.toList)) ∧ Below w.heap.size w w' := by
  have J := hide (parse_any s hs w hw)
  generalize rdN s.data.toList = x at *
  go_enter Tryz.func82, Tryz.ntmps82
  go_wp2_with fail
  refine J.out.mono ?_
  rintro e w' ⟨ve, rfl, hb⟩
  go_wp2_with fail
  go_ret
  exact ⟨rfl, hb⟩
end Go.Proofs.YtpolajoephjdhaaGreatDoor
