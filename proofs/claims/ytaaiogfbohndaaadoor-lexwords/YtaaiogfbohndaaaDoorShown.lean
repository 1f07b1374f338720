/-
  The head of all laws.
-/
import Derived.Test.YtaaiogfbohndaaaDoorPlc
namespace Go.Proofs.YtaaiogfbohndaaaDoor
open Go.RowKit
set_option maxRecDepth 1000000

theorem lex_ok (s : ByteArray) (l : List Tk) (hs : s.size ≤ 8000) (hl : lexS s = .ok l) (hne : l ≠ []) (w : World) (hw : Wd w) :
    Calls Tryd.prog 9 #[.string s] w fun e w' => Below w.heap.size w w' ∧ Wd w' ∧ ∃ g cap, e = .returned (.tuple #[.slice (some ⟨g, 0, none⟩) l.length cap, .nilIface]) ∧
      w'.ownsRow w.heap.size 48 3 (.slice (some ⟨g, 0, none⟩) l.length cap) l.length (tz s l) := by
  refine (lex_any s w hw).mono ?_
  rintro e w' ⟨h1, h2, ⟨l', v, h3, h4, h5, rfl, h6⟩ | ⟨a, N, er, h3 | h3, _⟩⟩
  · rw [hl] at h4
    injection h4 with h4
    subst h4
    have h6' := h6
    obtain ⟨_, ⟨_, h7⟩ | ⟨g, cap, cur, rfl, _⟩⟩ := h6
    · exact absurd (List.length_eq_zero_iff.1 h7) hne
    · exact ⟨h1, h2, g, cap, rfl, h6'⟩
  · rw [hl] at h3; cases h3.2.1
  · omega
theorem lex_no (s : ByteArray) (a : Nat) (hs : s.size ≤ 8000) (hl : lexS s = .no a) (w : World) (hw : Wd w) :
    Calls Tryd.prog 9 #[.string s] w fun e w' => Below w.heap.size w w' ∧ Wd w' ∧ ∃ N, e = .returned (.tuple #[.slice none 0 0, .iface 32 (.pointer (some ⟨N, 0, none⟩))]) := by
  refine (lex_any s w hw).mono ?_
  rintro e w' ⟨h1, h2, ⟨l', v, h3, h4, h5, rfl, h6⟩ | ⟨a, N, er, h3 | h3, rfl, _⟩⟩
  · rw [hl] at h4; cases h4
  · exact ⟨h1, h2, N, rfl⟩
  · omega

def ex1 : ByteArray := ⟨#[120, 49, 32, 61, 32, 45, 49, 50, 59, 32, 47, 47, 32, 110, 111]⟩
theorem ex1_lex : lexS ex1 = .ok [⟨1, 0, 2⟩, ⟨3, 3, 4⟩, ⟨3, 5, 6⟩, ⟨2, 6, 8⟩, ⟨3, 8, 9⟩, ⟨0, 15, 15⟩] := by rfl
theorem ex1_tz : tz ex1 [⟨1, 0, 2⟩, ⟨3, 3, 4⟩, ⟨3, 5, 6⟩, ⟨2, 6, 8⟩, ⟨3, 8, 9⟩, ⟨0, 15, 15⟩] = [.int .i64 1, .string ⟨#[120, 49]⟩, .int .i64 0, .int .i64 3, .string ⟨#[61]⟩, .int .i64 3, .int .i64 3, .string ⟨#[45]⟩, .int .i64 5, .int .i64 2, .string ⟨#[49, 50]⟩, .int .i64 6, .int .i64 3, .string ⟨#[59]⟩, .int .i64 8, .int .i64 0, .string ⟨#[]⟩, .int .i64 15] := by rfl
theorem ex2_lex : lexS ⟨#[48, 49, 50]⟩ = .no 0 := by rfl

theorem ex3_pl : pl (bt ⟨#[97, 10, 98, 99]⟩) (plA ⟨#[97, 10, 98, 99]⟩ 3) = (2, 2) := by rfl
set_option maxHeartbeats 8000000 in
theorem shown_any (w : World) (hw : Wd w) : Calls Tryd.prog 8 #[] w fun e w' => e = .returned (.bool true) ∧ Below w.heap.size w w' ∧ Wd w' := by
  have c1 : ∀ w, Wd w → Calls Tryd.prog 9 #[.string ⟨#[120, 49, 32, 61, 32, 45, 49, 50, 59, 32, 47, 47, 32, 110, 111]⟩] w fun e w' => Below w.heap.size w w' ∧ Wd w' ∧ ∃ g cap, e = .returned (.tuple #[.slice (some ⟨g, 0, none⟩) 6 cap, .nilIface]) ∧
      (∀ W, Below w'.heap.size w' W → W.cell? ⟨g, 0, none⟩ = some (.int .i64 1) ∧ W.cell? ⟨g, 1, none⟩ = some (.string ⟨#[120, 49]⟩) ∧ W.cell? ⟨g, 2, none⟩ = some (.int .i64 0) ∧ W.cell? ⟨g, 9, none⟩ = some (.int .i64 2) ∧ W.cell? ⟨g, 10, none⟩ = some (.string ⟨#[49, 50]⟩) ∧ W.cell? ⟨g, 11, none⟩ = some (.int .i64 6) ∧ W.cell? ⟨g, 15, none⟩ = some (.int .i64 0) ∧ W.cell? ⟨g, 16, none⟩ = some (.string ⟨#[]⟩) ∧ W.cell? ⟨g, 17, none⟩ = some (.int .i64 15)) := fun w hw => by
    refine (lex_ok ex1 _ (by decide) ex1_lex (by simp) w hw).mono ?_
    rintro e w' ⟨h1, h2, g, cap, rfl, h3⟩
    refine ⟨h1, h2, g, cap, rfl, fun W hW => ?_⟩
    rw [ex1_tz] at h3
    have h4 := own_later h3 hW
    have hc := fun j hj => h4.cellAt j hj
    exact ⟨hc 0 (by decide), hc 1 (by decide), hc 2 (by decide), hc 9 (by decide), hc 10 (by decide), hc 11 (by decide), hc 15 (by decide), hc 16 (by decide), hc 17 (by decide)⟩
  have c2 := lex_no ⟨#[48, 49, 50]⟩ 0 (by decide) ex2_lex
  have c3 : ∀ w, Calls Tryd.prog 16 #[.string ⟨#[97, 10, 98, 99]⟩, .int .i64 3] w fun e w' => e = .returned (.tuple #[.int .i64 2, .int .i64 2]) ∧ w' = w := fun w => by
    have h := place_any ⟨#[97, 10, 98, 99]⟩ 3 (by decide) w
    rw [ex3_pl] at h
    exact h
  go_enter Tryd.func8, Tryd.ntmps8
  go_upto_region 2 with (go_at_call 9; refine (c1 _ hw).mono ?_; rintro e w1 ⟨hb1, hw1, g, cap, rfl, HC⟩)
  have HB1 := hide hb1
  have HCC := hide HC
  clear hb1 HC c1
  go_upto_region 3 with (go_at_call 9; refine (c2 _ hw1).mono ?_; rintro e w2 ⟨hb2, hw2, N, rfl⟩)
  obtain ⟨f0, f1, f2, f3, f4, f5, f6, f7, f8⟩ := HCC.out _ hb2
  have HB2 := hide hb2
  clear hb2 HCC c2
  go_upto_region 4 with (go_at_call 16; refine (c3 _).mono ?_; rintro e w' ⟨rfl, rfl⟩)
  go_wp2
  go_ret
  exact ⟨rfl, HB1.out.trans (HB2.out.mono HB1.out.size), hw2⟩
end Go.Proofs.YtaaiogfbohndaaaDoor
