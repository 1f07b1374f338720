import Derived.Test.YtoccbeefmagklaaLent
import Derived.Deep.QuietTactic
import Derived.BigQuiet
namespace Go.Proofs.Ytoccbeefmagklaa
open Go.RowKit
set_option maxHeartbeats 1000000 in
set_option maxRecDepth 100000 in
theorem still_any (g o c : Nat) (vs : Value) (s : List UInt8) (m : Nat) (w : World) (hl : s.length + m ≤ 140737488355328) (hc : ∀ j (hj : j < s.length), w.cell? ⟨g, o + j, none⟩ = some (.int .u8 (s[j]).toNat)) (hc2 : ∀ j, j < m → w.cell? ⟨g, o + (s.length + j), none⟩ = some (.int .u8 201)) (hs : Bs w vs s) :
    Calls Try.prog 18 #[.slice (some ⟨g, o, none⟩) (s.length + m) c, vs] w fun e w' => e = .returned (.bool true) ∧ ∃ n, w' = w.drewN n := by
  obtain ⟨ao, cs, rfl, h1, h2, h3⟩ := hs
  have H3 := hide h3
  clear h3
  unfold maxLen at h2
  go_enter Try.func18, Try.ntmps18
  go_wp2
  go_loopw [5] (fun i wr => ∃ k : Nat, k ≤ s.length + m ∧ i = .int .i64 k ∧ ∃ n, wr = w.drewN n) (fun i _ => s.length + m - (intOf i).toNat)
  case atStart => exact ⟨0, Nat.zero_le _, rfl, 0, rfl⟩
  case round =>
    obtain ⟨k, hk, rfl, n, rfl⟩ := hrel
    by_cases hlt : k < s.length
    · obtain ⟨g2, o2, rfl, hd⟩ := H3.out k hlt
      have hck := hc k hlt
      have d1 : decide ((k : Int) < (s.length : Int)) = true := by simp; omega
      have d0 : decide ((k : Int) < (s.length : Int) + (m : Int)) = true := by simp; omega
      have d2 : decide (s.length ≤ k) = false := by simp; omega
      have e1 : (k : Int) < (s.length : Int) + (m : Int) := by omega
      have e2 : (k : Int) < (s.length : Int) := by omega
      clear hc hc2 H3
      go_wp2
      go_quiet (fail)
      go_wp2
      exact ⟨⟨k + 1, by omega, by go_num, _, rfl⟩, by simp [intOf]; omega⟩
    · by_cases hlm : k < s.length + m
      · have hck := hc2 (k - s.length) (by omega)
        rw [show o + (s.length + (k - s.length)) = o + k by omega] at hck
        have d1 : decide ((k : Int) < (s.length : Int)) = false := by simp; omega
        have d0 : decide ((k : Int) < (s.length : Int) + (m : Int)) = true := by simp; omega
        have d2 : decide (s.length ≤ k) = true := by simp; omega
        have e1 : (k : Int) < (s.length : Int) + (m : Int) := by omega
        have e2 : ¬ (k : Int) < (s.length : Int) := by omega
        clear hc hc2 H3
        go_wp2
        go_quiet (fail)
        go_wp2
        exact ⟨⟨k + 1, by omega, by go_num, _, rfl⟩, by simp [intOf]; omega⟩
      · have d0 : decide ((k : Int) < (s.length : Int) + (m : Int)) = false := by simp; omega
        go_wp2
        go_ret
        exact ⟨rfl, n, rfl⟩

/-- Bytes that were lent, as they were. -/
theorem still_row (g : Nat) (vs : Value) (s : List UInt8) (w : World) (hl : s.length ≤ 140737488351232) (hr : Row w g (s ++ List.replicate 80 201)) (hs : Bs w vs s) :
    Calls Try.prog 18 #[.slice (some ⟨g, 0, none⟩) (s.length + 80) (s.length + 80), vs] w fun e w' => e = .returned (.bool true) ∧ ∃ n, w' = w.drewN n := by
  refine still_any g 0 _ vs s 80 w (by omega) (fun j hj => ?_) (fun j hj => ?_) hs
  · have := hr.cell j (by simp; omega)
    rw [List.getElem_append_left hj] at this
    simpa using this
  · have := hr.cell (s.length + j) (by simp; omega)
    rw [List.getElem_append_right (by omega), List.getElem_replicate, show g = g from rfl] at this
    rw [Nat.zero_add]
    exact this
end Go.Proofs.Ytoccbeefmagklaa
