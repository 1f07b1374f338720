/-
  The law's looks: do all read as their owner left them?
-/
import Derived.Test.YtaaiogfbohndaaaDoorHld
import Derived.Deep.LoopGhost
namespace Go.Proofs.YtaaiogfbohndaaaDoor
open Go.RowKit
set_option maxHeartbeats 4000000 in
set_option maxRecDepth 100000 in
theorem looks_any (X : Nat → Prop) (vk : Value) (hs : List (Value × Nat)) (w : World) (hk : Kept w X vk hs) (hlen : hs.length ≤ 1000) :
    Calls Tryd.prog 12 #[vk] w fun e w' => e = .returned (.bool true) ∧ ∃ d, w' = w.drewN d := by
  obtain ⟨aok, capk, rfl⟩ := own_len hk.1
  obtain ⟨hc1, hc2⟩ := own_cap hk.1
  have HK := hide hk
  clear hk
  go_enter Tryd.func12, Tryd.ntmps12
  go_wp2_with fail
  go_loopw [3] (fun v3 wr => ∃ j : Nat, j ≤ hs.length ∧ v3 = .int .i64 j ∧ ∃ d, wr = w.drewN d) (fun v3 _ => hs.length - (intOf v3).toNat)
  case atStart => exact ⟨0, Nat.zero_le _, rfl, 0, rfl⟩
  case round =>
    obtain ⟨j, hj, rfl, d, rfl⟩ := hrel
    by_cases hlt : j < hs.length
    · obtain ⟨gv, rfl⟩ := own_addr HK.out.1 (by omega)
      obtain ⟨f1, f2⟩ := flat_at hs j hlt
      have c1 := (HK.out.1.cellAt (j * 2) (by omega)).trans f1
      have c2 := (HK.out.1.cellAt (j * 2 + 1) (by omega)).trans f2
      obtain ⟨a1, _⟩ := HK.out.2.2 _ (List.getElem_mem hlt)
      have e1 : (j : Int) < (hs.length : Int) := by omega
      clear f1 f2
      obtain ⟨ao, n, c, hv, hn, hc, hk⟩ := a1
      rw [hv] at c1
      generalize hs[j].2 = m at *
      have HKK := hide hk
      have HV := hide hv
      clear hk hv
      go_wp2_with fail
      go_loopw [4] (fun v4 wr => ∃ k : Nat, k ≤ n ∧ v4 = .int .i64 k ∧ ∃ d, wr = w.drewN d) (fun v4 _ => n - (intOf v4).toNat)
      case atStart => exact ⟨0, Nat.zero_le _, rfl, d, rfl⟩
      case round =>
        obtain ⟨k, hkn, rfl, d', rfl⟩ := hrel
        by_cases hlt2 : k < n
        · obtain ⟨g, rfl, hck⟩ := HKK.out k hlt2
          have d0 : w.cell? ⟨g, k * 3, none⟩ = some (.int .i64 (m : Nat)) := hck 0 (by decide)
          have d1 : w.cell? ⟨g, k * 3 + 1, none⟩ = some (.string ⟨#[]⟩) := hck 1 (by decide)
          have d2 : w.cell? ⟨g, k * 3 + 2, none⟩ = some (.int .i64 0) := hck 2 (by decide)
          have e2 : (k : Int) < (n : Int) := by omega
          clear hck
          go_wp2_with fail
          go_quiet (fail)
          go_wp2_with fail
          go_roundw
          case rel => exact ⟨k + 1, by omega, by go_num, d' + nq, by simp⟩
          case measure => simp [intOf]; omega
        · have e2 : ¬ (k : Int) < (n : Int) := by omega
          go_wp2_with fail
          go_roundw
          case rel => exact ⟨j + 1, by omega, by go_num, d', rfl⟩
          case measure => simp [intOf]; omega
    · have e1 : ¬ (j : Int) < (hs.length : Int) := by omega
      go_wp2_with fail
      go_ret
      exact ⟨rfl, d, rfl⟩
end Go.Proofs.YtaaiogfbohndaaaDoor
