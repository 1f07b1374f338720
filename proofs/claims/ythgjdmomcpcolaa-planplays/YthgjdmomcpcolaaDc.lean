/-
  The document's plan: the stage of each system.
-/
import Derived.Test.YthgjdmomcpcolaaDb
namespace Go.Proofs.Ythgjdmomcpcolaa
open Go.RowKit
set_option maxRecDepth 100000
theorem sg_small (L : List Sy) : ∀ m x, x < m → x < L.length → sg L x ≤ x := by
  intro m
  induction m with
  | zero => exact fun x h => absurd h (by omega)
  | succ m ih =>
    intro x h1 h2
    rcases sg_why L x h2 with h | ⟨k, k1, k2, k3⟩
    · omega
    · have := ih k (by omega) (by omega)
      omega
def stm (L : List Sy) (i : Nat) : List Int := (List.range i).map fun j => (sg L j : Int)
theorem stm_len (L : List Sy) (i : Nat) : (stm L i).length = i := by simp [stm]
theorem stm_add (L : List Sy) (i : Nat) : stm L (i + 1) = stm L i ++ [(sg L i : Int)] := by simp [stm, List.range_succ]
theorem stm_at (L : List Sy) (i k : Nat) (h : k < (stm L i).length) : (stm L i)[k] = (sg L k : Int) := by simp [stm]
set_option maxHeartbeats 8000000 in
theorem dstage_any {w : World} {B g : Nat} {L : List Sy} (h : Dp w B g L) : Calls Try.prog 45 #[.pointer (some ⟨g, 0, none⟩)] w fun e w' => ∃ v, e = .returned v ∧ Rw w' w.heap.size v (stm L L.length) ∧ Below w.heap.size w w' := by
  have H := hide h
  obtain ⟨vr, vw, rs, ws, h1, h2, h3, h4, h5, h6, h7, h8⟩ := h
  obtain ⟨aw, cw, rfl⟩ := own_len h3
  obtain ⟨hw1, hw2⟩ := own_cap h3
  rw [h5] at h1 hw1
  have HE : Hid (∀ W, Below w.heap.size w W → W.cell? ⟨g, 1, none⟩ = some (.slice aw L.length cw)) := fun W hW => by
    have e1 : w.cell? ⟨g, 1, none⟩ = some (.slice aw L.length cw) := by rw [cell_of_row _ _ _ _ 58 (0, 0) h1]; rfl
    exact (World.cell?_of_block (hW.block g (World.block_lt_of_cell? w _ e1))).trans e1
  have HL := hide h7
  obtain ⟨i0, hi0, hz0, hz1, hz2⟩ := info_parts info3
  clear h1 h2 h3 h4 h5 h6 h7 h8
  go_enter Try.func45, Try.ntmps45
  go_wp2_with fail
  go_loopw [3, 4] (fun v3 v4 W => ∃ i : Nat, i ≤ L.length ∧ v4 = .int .i64 (i : Int) ∧ Hid (Rw W w.heap.size v3 (stm L i) ∧ Below w.heap.size w W)) (fun _ v4 _ => L.length - (intOf v4).toNat)
  case atStart => exact ⟨0, Nat.zero_le _, rfl, Rw.nil _ _, Below.refl _ _⟩
  case round =>
    obtain ⟨i, hi, rfl, HI⟩ := hrel
    have e1 := HE.out wr HI.out.2
    obtain ⟨h1, h2⟩ := HI.out
    obtain ⟨T, hT⟩ : ∃ T, T = stm L i := ⟨_, rfl⟩
    have hTl : T.length = i := by rw [hT, stm_len]
    rw [← hT] at h1
    obtain ⟨a3, c3, rfl⟩ := own_len h1
    obtain ⟨hc3a, hc3b⟩ := own_cap h1
    have HT := hide hT
    have HTL := hide hTl
    rw [hTl] at hc3a ⊢
    have HRW : Hid (Rw wr w.heap.size (.slice a3 i c3) T ∧ Below w.heap.size w wr) := ⟨by rw [← hTl]; exact h1, h2⟩
    clear h1 h2 hT hTl HI
    by_cases hlt : i < L.length
    · have t1 : (i : Int) < (L.length : Int) := by omega
      have Q0 : Hid (0 ≤ sg L i ∧ (∀ j, j < 0 → cn L j i = true → sg L j + 1 ≤ 0) ∧ Rw wr w.heap.size (.slice a3 i c3) T ∧ Below w.heap.size w wr) := ⟨Nat.zero_le _, fun j h => absurd h (by omega), HRW.out⟩
      have HSI : Hid (sg L i ≤ 1000) := by
        have h1 := sg_small L (i + 1) i (by omega) hlt
        have h2 := HL.out
        unfold Hid
        omega
      clear HRW
      go_wp2_with fail
      clear e1
      go_loopw [5, 6] (fun v5 v6 W => ∃ k s : Nat, k ≤ i ∧ v6 = .int .i64 (k : Int) ∧ v5 = .int .i64 (s : Int) ∧ Hid (s ≤ sg L i ∧ (∀ j, j < k → cn L j i = true → sg L j + 1 ≤ s) ∧ Rw W w.heap.size (.slice a3 i c3) T ∧ Below w.heap.size w W)) (fun _ v6 _ => i - (intOf v6).toNat)
      case atStart => exact ⟨0, 0, Nat.zero_le _, rfl, rfl, Q0.out⟩
      case round =>
        obtain ⟨k, s, hk, rfl, rfl, HK⟩ := hrel
        clear Q0
        by_cases hki : k < i
        · have t2 : (k : Int) < (i : Int) := by omega
          have JC : Hid (Calls Try.prog 16 #[.pointer (some ⟨g, 0, none⟩), .int .i64 (k : Int), .int .i64 (i : Int)] wr fun e w' => e = .returned (.bool (cn L k i)) ∧ Below wr.heap.size wr w') := by
            have := dconflict_any (H.out.later HK.out.2.2.2) (k : Int) (i : Int)
            rw [cz_nat L k i (by omega) hlt (by omega)] at this
            exact this
          have hkB : k ≤ 9223372036854775800 := by have := HL.out; omega
          cases hc : cn L k i with
          | true =>
            rw [hc] at JC
            have hsl := sg_lt L k i hki hlt hc
            go_wp2_with fail
            refine JC.out.mono ?_
            rintro e w6 ⟨rfl, b6⟩
            obtain ⟨k1, k2, k3, k4⟩ := HK.out
            have HR6 : Hid (Rw w6 w.heap.size (.slice a3 i c3) T ∧ Below w.heap.size w w6) := ⟨own_later k3 b6, below_on k4 b6⟩
            obtain ⟨g3, c3', e3, -⟩ := own_form HR6.out.1 (by have := HTL.out; omega)
            simp only [Value.slice.injEq] at e3
            obtain ⟨rfl, -, rfl⟩ := e3
            have e5 := Rw.cells HR6.out.1 k (by have := HTL.out; omega)
            have hTk : T[k]'(by have := HTL.out; omega) = (sg L k : Int) := by
              have ht := HT.out
              subst ht
              exact stm_at L i k _
            rw [hTk] at e5
            obtain ⟨q, hq⟩ : ∃ q, q = sg L k := ⟨_, rfl⟩
            rw [← hq] at e5 hsl
            obtain ⟨q1, hq1⟩ : ∃ x, x = q + 1 := ⟨_, rfl⟩
            have t3 : IntKind.i64.wrap ((q : Int) + 1) = (q1 : Int) := by
              have := HSI.out
              rw [IntKind.wrap_i64]
              omega
            have HQ : Hid (q1 = sg L k + 1 ∧ q1 ≤ sg L i) := ⟨by omega, by omega⟩
            have HK2 : Hid (s ≤ sg L i ∧ ∀ j, j < k → cn L j i = true → sg L j + 1 ≤ s) := ⟨k1, k2⟩
            by_cases hgt : (q1 : Int) > (s : Int)
            · have HN : Hid (q1 ≤ sg L i ∧ (∀ j, j < k + 1 → cn L j i = true → sg L j + 1 ≤ q1)) := by
                refine ⟨HQ.out.2, fun j hj hcj => ?_⟩
                by_cases e : j = k
                · subst e
                  have := HQ.out.1
                  omega
                · have := HK2.out.2 j (by omega) hcj
                  omega
              clear HK JC hc hsl k1 k2 k3 k4 b6 hTk hq hq1
              go_wp2_with fail
              go_roundw
              case rel => exact ⟨k + 1, q1, by omega, rfl, rfl, HN.out.1, HN.out.2, HR6.out⟩
              case measure => simp only [intOf]; omega
            · have HN : Hid (s ≤ sg L i ∧ (∀ j, j < k + 1 → cn L j i = true → sg L j + 1 ≤ s)) := by
                refine ⟨HK2.out.1, fun j hj hcj => ?_⟩
                by_cases e : j = k
                · subst e
                  have := HQ.out.1
                  omega
                · exact HK2.out.2 j (by omega) hcj
              clear HK JC hc hsl k1 k2 k3 k4 b6 hTk hq hq1
              go_wp2_with fail
              go_roundw
              case rel => exact ⟨k + 1, s, by omega, rfl, rfl, HN.out.1, HN.out.2, HR6.out⟩
              case measure => simp only [intOf]; omega
          | false =>
            rw [hc] at JC
            go_wp2_with fail
            refine JC.out.mono ?_
            rintro e w6 ⟨rfl, b6⟩
            have HN : Hid (s ≤ sg L i ∧ (∀ j, j < k + 1 → cn L j i = true → sg L j + 1 ≤ s) ∧ Rw w6 w.heap.size (.slice a3 i c3) T ∧ Below w.heap.size w w6) := by
              obtain ⟨k1, k2, k3, k4⟩ := HK.out
              refine ⟨k1, fun j hj hcj => ?_, own_later k3 b6, below_on k4 b6⟩
              by_cases e : j = k
              · subst e
                rw [hc] at hcj
                cases hcj
              · exact k2 j (by omega) hcj
            clear HK JC hc b6
            go_wp2_with fail
            go_roundw
            case rel => exact ⟨k + 1, s, by omega, rfl, rfl, HN.out⟩
            case measure => simp only [intOf]; omega
        · have t2 : ¬ (k : Int) < (i : Int) := by omega
          obtain rfl : k = i := by omega
          obtain ⟨k1, k2, k3, k4⟩ := HK.out
          have hse : s = sg L k := by
            rcases sg_why L k hlt with h | ⟨j, j1, j2, j3⟩
            · omega
            · have := k2 j j1 j2
              omega
          have HSE := hide hse
          have HR6 : Hid (Rw wr w.heap.size (.slice a3 k c3) T ∧ Below w.heap.size w wr) := ⟨k3, k4⟩
          clear HK k1 k2 k3 k4 hse
          go_wp2_with (at_builtin; refine wpList_append_nums rfl _ _ rfl w.heap.size (.slice a3 k c3) T.length (zc T) rfl (own_later HR6.out.1 (below_alloc wr _)) (.slice (some ⟨wr.heap.size, 0, none⟩) 1 1) [(s : Int)] rfl (Rl.lit wr _) ?pA1 ?pA2 ?_)
          case pA1 => have := HTL.out; have := HL.out; simp; omega
          case pA2 => have := HR6.out.2.size; simp; omega
          intro v9 w9 h9 hg9 _
          have HN : Hid (Rw w9 w.heap.size v9 (stm L (k + 1)) ∧ Below w.heap.size w w9) := by
            refine ⟨?_, ?_⟩
            · rw [stm_add, ← HT.out, ← HSE.out]
              unfold Rw
              rw [zc_append, List.length_append]
              exact h9
            · have hb := below_on HR6.out.2 (below_alloc wr (.cells #[.int .i64 (s : Int)] 3))
              exact hb.grown hg9 hb.size (fun q e => (HR6.out.1.lt q e).1)
          obtain ⟨a9, c9, rfl⟩ := own_len h9
          clear h9 hg9
          go_wp2_with fail
          go_roundw
          case rel => exact ⟨k + 1, by omega, rfl, HN.out⟩
          case measure => simp only [intOf]; omega
    · have t1 : ¬ (i : Int) < (L.length : Int) := by omega
      obtain rfl : i = L.length := by omega
      have HF : Hid (Rw wr w.heap.size (.slice a3 L.length c3) (stm L L.length) ∧ Below w.heap.size w wr) := ⟨by rw [← HT.out]; exact HRW.out.1, HRW.out.2⟩
      clear HRW
      go_wp2_with fail
      go_ret
      exact ⟨_, rfl, HF.out⟩
end Go.Proofs.Ythgjdmomcpcolaa
