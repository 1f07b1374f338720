/-
  The owner's looks (function 20): do all read as their owner wrote them?
-/
import Derived.Test.YtoccbeefmagklaaLawRow
namespace Go.Proofs.Ytoccbeefmagklaa
open Go.RowKit

/-- It reads as this byte alone. -/
def Reads (w : World) (v : Value) (m : Nat) : Prop := ∃ ao n c, v = .slice ao n c ∧ n ≤ c ∧ c ≤ maxLen ∧ ∀ k, k < n → ∃ g, ao = some ⟨g, 0, none⟩ ∧ w.cell? ⟨g, k, none⟩ = some (.int .u8 m)

set_option maxHeartbeats 4000000 in
set_option maxRecDepth 100000 in
theorem looks_any (go gv M cap : Nat) (ev : Nat → Value) (em : Nat → Nat) (w : World) (_hM : M ≤ 1000) (hcap : M ≤ cap) (hcm : cap ≤ maxLen) (hcell : w.cell? ⟨go, 0, none⟩ = some (.slice (some ⟨gv, 0, none⟩) M cap))
    (h1 : ∀ j, j < M → w.cell? ⟨gv, j * 2, none⟩ = some (ev j)) (h2 : ∀ j, j < M → w.cell? ⟨gv, j * 2 + 1, none⟩ = some (.int .u8 (em j))) (h3 : ∀ j, j < M → Reads w (ev j) (em j)) (h4 : ∀ j, j < M → em j < 256) :
    Calls Try.prog 20 #[.pointer (some ⟨go, 0, none⟩)] w fun e w' => e = .returned (.bool true) ∧ ∃ d, w' = w.drewN d := by
  have H1 := hide h1
  have H2 := hide h2
  have H3 := hide h3
  have H4 := hide h4
  clear h1 h2 h3 h4
  unfold maxLen at hcm
  go_enter Try.func20, Try.ntmps20
  go_wp2
  go_loopw [3] (fun v3 wr => ∃ j : Nat, j ≤ M ∧ v3 = .int .i64 j ∧ ∃ d, wr = w.drewN d) (fun v3 _ => M - (intOf v3).toNat)
  case atStart => exact ⟨0, Nat.zero_le _, rfl, 0, rfl⟩
  case round =>
    obtain ⟨j, hj, rfl, d, rfl⟩ := hrel
    by_cases hlt : j < M
    · have c1 := H1.out j hlt
      have c2 := H2.out j hlt
      have e1 : (j : Int) < (M : Int) := by omega
      have hm := H4.out j hlt
      obtain ⟨ao, n, c, hv, hn, hc, hk⟩ := H3.out j hlt
      rw [hv] at c1
      unfold maxLen at hc
      generalize em j = m at *
      have HK := hide hk
      have HV := hide hv
      clear hk hv
      go_wp2
      go_loopw [4] (fun v4 wr => ∃ k : Nat, k ≤ n ∧ v4 = .int .i64 k ∧ ∃ d, wr = w.drewN d) (fun v4 _ => n - (intOf v4).toNat)
      case atStart => exact ⟨0, Nat.zero_le _, rfl, d, rfl⟩
      case round =>
        obtain ⟨k, hkn, rfl, d', rfl⟩ := hrel
        by_cases hlt2 : k < n
        · obtain ⟨g, rfl, hck⟩ := HK.out k hlt2
          have e2 : (k : Int) < (n : Int) := by omega
          have z1 : ((m : Int) != m) = false := by simp
          go_wp2
          go_quiet (fail)
          go_wp2
          go_roundw
          case rel => exact ⟨k + 1, by omega, by go_num, d' + nq, by simp⟩
          case measure => simp [intOf]; omega
        · have e2 : ¬ (k : Int) < (n : Int) := by omega
          go_wp2
          go_roundw
          case rel => exact ⟨j + 1, by omega, by go_num, d', rfl⟩
          case measure => simp [intOf]; omega
    · have e1 : ¬ (j : Int) < (M : Int) := by omega
      go_wp2
      go_ret
      exact ⟨rfl, d, rfl⟩
end Go.Proofs.Ytoccbeefmagklaa
