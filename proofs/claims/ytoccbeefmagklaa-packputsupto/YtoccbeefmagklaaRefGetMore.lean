/-
  The document's GetInt and GetText.
-/
import Derived.Test.YtoccbeefmagklaaRefGet
import Derived.Test.YtoccbeefmagklaaGetMore
namespace Go.Proofs.Ytoccbeefmagklaa
open Go.RowKit

set_option maxHeartbeats 1000000 in
set_option maxRecDepth 100000 in
theorem runfold_any (n : Nat) (w : World) (h : n < 18446744073709551616) :
    Calls Try.prog 44 #[.int .u64 n] w fun e w' => e = .returned (.int .i64 (Dec.unzig n)) ∧ w' = w := by
  by_cases h2 : n % 2 = 1
  · have E := hide (show Dec.unzig n = -((n / 2 : Nat) : Int) - 1 by unfold Dec.unzig; rw [if_neg (by omega)])
    have ez : ((n : Int) % 2 == 1) = true := by simp; omega
    go_enter Try.func44, Try.ntmps44
    go_wp2
    go_ret
    refine ⟨ret_int ?_, rfl⟩
    rw [E.out]
    simp <;> omega
  · have E := hide (show Dec.unzig n = ((n / 2 : Nat) : Int) by unfold Dec.unzig; rw [if_pos (by omega)])
    have ez : ((n : Int) % 2 == 1) = false := by rw [beq_eq_false_iff_ne]; omega
    go_enter Try.func44, Try.ntmps44
    go_wp2
    go_ret
    refine ⟨ret_int ?_, rfl⟩
    rw [E.out]
    simp <;> omega

set_option maxHeartbeats 1000000 in
set_option maxRecDepth 100000 in
theorem rgetInt_any (v : Value) (l : List UInt8) (w : World) (h : Bs w v l) :
    Calls Try.prog 24 #[v] w fun e w' => e = .returned (.tuple #[.int .i64 (Dec.unzig (Dec.getN l).1), .int .i64 (Dec.getN l).2]) ∧ w' = w := by
  have hg := rget_any v l w h
  have hu := runfold_any (Dec.getN l).1 w (Dec.getN_lt l)
  have hn := @Dec.getN_none l
  clear h
  generalize Dec.getN l = p at *
  obtain ⟨n, k⟩ := p
  simp only at *
  by_cases hk : k = 0
  · have hz : ((k : Int) == 0) = true := by simp [hk]
    obtain rfl := hn hk
    have HK := hide hk
    clear hn hk
    go_enter Try.func24, Try.ntmps24
    go_wp2_with (first | (go_at_call 22; refine hg.mono ?_; rintro e w' ⟨rfl, rfl⟩))
    go_ret2
    rw [HK.out]
    exact ⟨rfl, rfl⟩
  · have hz : ((k : Int) == 0) = false := by simp [hk]
    clear hn hk
    go_enter Try.func24, Try.ntmps24
    go_wp2_with (first | (go_at_call 22; refine hg.mono ?_; rintro e w' ⟨rfl, rfl⟩) | (go_at_call 44; refine hu.mono ?_; rintro e w' ⟨rfl, rfl⟩))
    go_ret2
    exact ⟨rfl, rfl⟩

set_option maxHeartbeats 1000000 in
set_option maxRecDepth 100000 in
theorem rgetText_any (v : Value) (l : List UInt8) (w : World) (h : Bs w v l) :
    Calls Try.prog 26 #[v] w fun e w' => e = .returned (.tuple #[.string ⟨(textN l).1.toArray⟩, .int .i64 (textN l).2]) ∧ w' = w := by
  have hg := rget_any v l w h
  have h1 := Dec.getN_le l
  have h2 := Dec.getN_lt l
  by_cases hno : (Dec.getN l).2 = 0 ∨ l.length - (Dec.getN l).2 < (Dec.getN l).1
  · have E : Hid (textN l = ([], 0)) := by unfold textN; rw [if_pos hno]; rfl
    obtain ⟨ao, c, rfl, hlc, hc, _⟩ := h
    unfold maxLen at hc
    generalize Dec.getN l = p at *
    obtain ⟨n, k⟩ := p
    simp only at hno h1 h2 hg
    by_cases hk : k = 0
    · have hz : ((k : Int) == 0) = true := by simp [hk]
      clear hk hno
      go_enter Try.func26, Try.ntmps26
      go_wp2_with (go_at_call 22; refine hg.mono ?_; rintro e w' ⟨rfl, rfl⟩)
      go_ret2
      rw [E.out]
      exact ⟨rfl, rfl⟩
    · have hz : ((k : Int) == 0) = false := by simp [hk]
      have hlt : (l.length : Int) - k < n := by omega
      clear hno
      go_enter Try.func26, Try.ntmps26
      go_wp2_with (go_at_call 22; refine hg.mono ?_; rintro e w' ⟨rfl, rfl⟩)
      go_ret2
      rw [E.out]
      exact ⟨rfl, rfl⟩
  · have E : Hid (textN l = ((l.drop (Dec.getN l).2).take (Dec.getN l).1, (Dec.getN l).2 + (Dec.getN l).1)) := by unfold textN; rw [if_neg hno]; rfl
    rcases h.parts with ⟨ao, c, rfl, rfl⟩ | ⟨g, o, c, rfl, hpos, hlc, hc, hcell⟩
    · exact absurd (Or.inl rfl) hno
    unfold maxLen at hc
    generalize Dec.getN l = p at *
    obtain ⟨n, k⟩ := p
    simp only at hno h1 h2 hg E
    have hz : ((k : Int) == 0) = false := by simp; omega
    have hle : (n : Int) ≤ (l.length : Int) - k := by omega
    have hle' : ¬ ((l.length : Int) - k < n) := by omega
    by_cases hkc : k = c
    · subst hkc
      obtain rfl : n = 0 := by omega
      have hcv := conv_row w ⟨g, o, none⟩ 0 [] (fun j hj => absurd hj (by simp))
      have hcv' : (convert 22 9 (.slice (some ⟨g, o, none⟩) 0 0)).run Try.prog w = .ok (.string ⟨#[]⟩) w := hcv
      clear hcv hno
      go_enter Try.func26, Try.ntmps26
      go_wp2_with (go_at_call 22; refine hg.mono ?_; rintro e w' ⟨rfl, rfl⟩)
      go_ret2
      rw [E.out]
      exact ⟨by simp, rfl⟩
    · have hcv := conv_row w ⟨g, o + k, none⟩ (c - k) ((l.drop k).take n) (fun j hj => by
        simp at hj
        rw [show (⟨g, o + k, none⟩ : Addr).add j = ⟨g, o + (k + j), none⟩ by simp [Addr.add, Nat.add_assoc], hcell (k + j) (by omega)]
        simp)
      rw [show ((l.drop k).take n).length = n by simp; omega] at hcv
      clear hno
      go_enter Try.func26, Try.ntmps26
      go_wp2_with (go_at_call 22; refine hg.mono ?_; rintro e w' ⟨rfl, rfl⟩)
      go_ret2
      rw [E.out]
      exact ⟨by simp, rfl⟩
end Go.Proofs.Ytoccbeefmagklaa
