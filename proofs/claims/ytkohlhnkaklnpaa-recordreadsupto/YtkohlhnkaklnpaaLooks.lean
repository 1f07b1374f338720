/-
  The law's looks: do all read as their owner left them?
-/
import Derived.Test.YtkohlhnkaklnpaaHold
namespace Go.Proofs.Ytkohlhnkaklnpaa
open Go.RowKit
set_option maxHeartbeats 4000000 in
set_option maxRecDepth 100000 in
theorem looks_any (B : Nat) (vk : Value) (hs : List (Value × Nat)) (w : World) (hk : Kept w B vk hs) :
    Calls Try.prog 15 #[vk] w fun e w' => e = .returned (.bool true) ∧ ∃ d, w' = w.drewN d := by
  obtain ⟨aok, capk, rfl⟩ := own_len hk.1
  have hcap : hs.length ≤ capk ∧ capk ≤ 9223372036854775807 := by
    rcases hk.1.2 with ⟨e, h0⟩ | ⟨g, c', cur, e, _, _, h1, h2, _⟩
    · simp only [Value.slice.injEq] at e
      obtain ⟨_, _, rfl⟩ := e
      exact ⟨by omega, by omega⟩
    · simp only [Value.slice.injEq] at e
      obtain ⟨_, _, rfl⟩ := e
      unfold maxLen at h2
      exact ⟨h1, by omega⟩
  obtain ⟨hc1, hc2⟩ := hcap
  have HK := hide hk
  clear hk
  go_enter Try.func15, Try.ntmps15
  go_wp2_with fail
  go_loopw [3] (fun v3 wr => ∃ j : Nat, j ≤ hs.length ∧ v3 = .int .i64 j ∧ ∃ d, wr = w.drewN d) (fun v3 _ => hs.length - (intOf v3).toNat)
  case atStart => exact ⟨0, Nat.zero_le _, rfl, 0, rfl⟩
  case round =>
    obtain ⟨j, hj, rfl, d, rfl⟩ := hrel
    by_cases hlt : j < hs.length
    · obtain ⟨gv, rfl⟩ : ∃ g, aok = some ⟨g, 0, none⟩ := by
        rcases HK.out.1.2 with ⟨_, e⟩ | ⟨g, c', cur, e, _⟩
        · omega
        · simp only [Value.slice.injEq] at e
          exact ⟨g, e.1⟩
      obtain ⟨f1, f2⟩ := flat_at hs j hlt
      have c1 := (HK.out.1.cellAt (j * 2) (by omega)).trans f1
      have c2 := (HK.out.1.cellAt (j * 2 + 1) (by omega)).trans f2
      obtain ⟨a1, a2, _, _⟩ := HK.out.2 _ (List.getElem_mem hlt)
      have e1 : (j : Int) < (hs.length : Int) := by omega
      clear f1 f2
      obtain ⟨ao, n, c, hv, hn, hc, hk⟩ := a1
      rw [hv] at c1
      unfold maxLen at hc
      generalize hs[j].2 = m at *
      have HKK := hide hk
      have HV := hide hv
      clear hk hv
      go_wp2_with fail
      go_loopw [4] (fun v4 wr => ∃ k : Nat, k ≤ n ∧ v4 = .int .i64 k ∧ ∃ d, wr = w.drewN d) (fun v4 _ => n - (intOf v4).toNat)
      case atStart => exact ⟨0, Nat.zero_le _, rfl, d, rfl⟩
      case round =>
        obtain ⟨k, hkn, rfl, d', rfl⟩ := hrel
        by_cases hlt2 : k < n
        · obtain ⟨g, o, rfl, hck⟩ := HKK.out k hlt2
          have e2 : (k : Int) < (n : Int) := by omega
          have z1 : ((m : Int) != m) = false := by simp
          go_wp2_with fail
          go_quiet (fail)
          go_wp2_with fail
          go_roundw
          case rel => exact ⟨k + 1, by omega, by go_num, d' + nq, by simp⟩
          case measure => simp [intOf]; omega
        · have e2 : ¬ (k : Int) < (n : Int) := by omega
          go_wp2_with fail
          go_roundw
          case rel => exact ⟨j + 1, by omega, by go_num, d', rfl⟩
          case measure => simp [intOf]; omega
    · have e1 : ¬ (j : Int) < (hs.length : Int) := by omega
      go_wp2_with fail
      go_ret
      exact ⟨rfl, d, rfl⟩
end Go.Proofs.Ytkohlhnkaklnpaa
