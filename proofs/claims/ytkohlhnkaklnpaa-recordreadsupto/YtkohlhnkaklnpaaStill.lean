/-
  The law's still and sevens: what was lent is looked at, and written over.
-/
import Derived.Test.YtkohlhnkaklnpaaLent
import Derived.Deep.QuietTactic
import Derived.BigQuiet
namespace Go.Proofs.Ytkohlhnkaklnpaa
open Go.RowKit
/-- What was lent, written over up to a place. -/
def over77 (l : List UInt8) (k : Nat) : List UInt8 := List.replicate k 77 ++ l.drop k
theorem over77_length (l : List UInt8) {k : Nat} (h : k ≤ l.length) : (over77 l k).length = l.length := by simp [over77]; omega
theorem over77_set (l : List UInt8) {k : Nat} (h : k < l.length) : (over77 l k).set k 77 = over77 l (k + 1) := by
  unfold over77
  rw [List.set_append_right _ _ (by simp), List.length_replicate, Nat.sub_self, List.drop_eq_getElem_cons h, List.set_cons_zero, List.replicate_succ', List.append_assoc]
  rfl
theorem over77_at (l : List UInt8) {k : Nat} (h : k < l.length) : (over77 l k)[k]'(by rw [over77_length l (Nat.le_of_lt h)]; exact h) = l[k] := by
  unfold over77
  rw [List.getElem_append_right (by simp)]
  simp
theorem over77_end (l : List UInt8) : over77 l l.length = List.replicate l.length 77 := by simp [over77]
theorem below_dn (w : World) : ∀ n, Below w.heap.size w (w.drewN n)
  | 0 => Below.refl _ _
  | n + 1 => by
    have := below_dn w n
    simpa using this.drew
theorem row_drewN {w : World} {g : Nat} {l : List UInt8} (h : Row w g l) (n : Nat) : Row (w.drewN n) g l := ((below_dn w n).block g h.lt).trans h
theorem grown_drewN {w wr : World} {row : Option Nat} (h : w.grownBy wr row) (n : Nat) : w.grownBy (wr.drewN n) row := by
  have hb := below_dn wr n
  exact ⟨hb.os.trans h.1, hb.tape.trans h.2, hb.output.trans h.3, Nat.le_trans h.size hb.size, fun k hk hne => (hb.block k (Nat.lt_of_lt_of_le hk h.size)).trans (h.block k hk hne)⟩
theorem grown_put77 {w wr : World} {g : Nat} (h : w.grownBy wr (some g)) (k : Nat) (u : Value) : w.grownBy (wr.setCell ⟨g, k, none⟩ u) (some g) :=
  ⟨h.1, h.2, h.3, by simpa using h.size, fun q hq hne => (heap_setCell_other wr ⟨g, k, none⟩ q u (fun e => hne (by rw [e]))).trans (h.block q hq hne)⟩
set_option maxHeartbeats 4000000 in
set_option maxRecDepth 100000 in
theorem still_row (g : Nat) (vs : Value) (s : List UInt8) (w : World) (hl : s.length ≤ 140737488351232) (hr : Row w g (s ++ List.replicate 8 201)) (hs : Bs w vs s) (hng : 0 < s.length → ∀ g', vs.ownBlock = some g' → g' ≠ g) :
    Calls Try.prog 12 #[.slice (some ⟨g, 0, none⟩) (s.length + 8) (s.length + 8), vs] w fun e w' => e = .returned (.bool true) ∧ Row w' g (List.replicate (s.length + 8) 77) ∧ w.grownBy w' (some g) := by
  obtain ⟨ao, cs, rfl, h1, h2, h3⟩ := hs
  have H3 := hide h3
  clear h3
  unfold maxLen at h2
  obtain ⟨L, hL⟩ : ∃ L, L = s ++ List.replicate 8 201 := ⟨_, rfl⟩
  have hLl : L.length = s.length + 8 := by rw [hL]; simp
  have ha1 : ∀ j (hj : j < s.length), L[j]? = some s[j] := fun j hj => by
    rw [hL, List.getElem?_append_left hj, List.getElem?_eq_getElem hj]
  have ha2 : ∀ j, s.length ≤ j → j < s.length + 8 → L[j]? = some 201 := fun j h h8 => by
    rw [hL, List.getElem?_append_right h, List.getElem?_replicate, if_pos (by omega)]
  rw [← hL] at hr
  clear hL
  have H1 := hide ha1
  have H2 := hide ha2
  have HLl := hide hLl
  clear ha1 ha2 hLl
  go_enter Try.func12, Try.ntmps12
  go_wp2_with fail
  go_loopw [5, 6] (fun b i wr => ∃ k : Nat, k ≤ s.length + 8 ∧ b = .bool true ∧ i = .int .i64 k ∧ Hid (Row wr g (over77 L k)) ∧ Hid (w.grownBy wr (some g))) (fun _ i _ => s.length + 8 - (intOf i).toNat)
  case atStart => exact ⟨0, Nat.zero_le _, rfl, rfl, by simpa [over77, Hid] using hr, ⟨rfl, rfl, rfl, Nat.le_refl _, fun _ _ _ => rfl⟩⟩
  case round =>
    obtain ⟨k, hk, rfl, rfl, HR, HG⟩ := hrel
    by_cases hlt : k < s.length
    · obtain ⟨g2, o2, rfl, hd⟩ := H3.out k hlt
      have hkL : k < L.length := by have := HLl.out; omega
      have hck := HR.out.cell k (by rw [over77_length L (by omega)]; exact hkL)
      rw [over77_at L hkL, (List.getElem?_eq_some_iff.1 (H1.out k hlt)).2] at hck
      have hfz := HR.out.frozen k
      have hd' : wr.cell? ⟨g2, o2 + k, none⟩ = some (.int .u8 (s[k]).toNat) := HG.out.cell hd (fun e => hng (by omega) g2 rfl (Option.some.inj e))
      have d1 : decide ((k : Int) < (s.length : Int)) = true := by simp; omega
      have d0 : decide ((k : Int) < (s.length : Int) + 8) = true := by simp; omega
      have d2 : decide (s.length ≤ k) = false := by simp; omega
      have e1 : (k : Int) < (s.length : Int) + 8 := by omega
      have e2 : (k : Int) < (s.length : Int) := by omega
      clear H1 H2 H3 hd
      go_wp2_with fail
      go_quiet (fail)
      go_wp2_with fail
      go_roundw
      case rel =>
        refine ⟨k + 1, by omega, rfl, by go_num, ?_, ?_⟩
        · have := (row_drewN HR.out nq).set k 77
          rw [over77_set L hkL] at this
          exact this
        · exact grown_put77 (grown_drewN HG.out nq) k _
      case measure => simp [intOf]; omega
    · by_cases hlm : k < s.length + 8
      · have hkL : k < L.length := by have := HLl.out; omega
        have hck := HR.out.cell k (by rw [over77_length L (by omega)]; exact hkL)
        rw [over77_at L hkL, (List.getElem?_eq_some_iff.1 (H2.out k (by omega) hlm)).2] at hck
        have hfz := HR.out.frozen k
        have d1 : decide ((k : Int) < (s.length : Int)) = false := by simp; omega
        have d0 : decide ((k : Int) < (s.length : Int) + 8) = true := by simp; omega
        have d2 : decide (s.length ≤ k) = true := by simp; omega
        have e1 : (k : Int) < (s.length : Int) + 8 := by omega
        have e2 : ¬ (k : Int) < (s.length : Int) := by omega
        clear H1 H2 H3
        go_wp2_with fail
        go_quiet (fail)
        go_wp2_with fail
        go_roundw
        case rel =>
          refine ⟨k + 1, by omega, rfl, by go_num, ?_, ?_⟩
          · have := (row_drewN HR.out nq).set k 77
            rw [over77_set L hkL] at this
            exact this
          · exact grown_put77 (grown_drewN HG.out nq) k _
        case measure => simp [intOf]; omega
      · have d0 : decide ((k : Int) < (s.length : Int) + 8) = false := by simp; omega
        have e1 : ¬ (k : Int) < (s.length : Int) + 8 := by omega
        obtain rfl : k = s.length + 8 := by omega
        go_wp2_with fail
        go_ret
        have hr := HR.out
        rw [← HLl.out, over77_end, HLl.out] at hr
        exact ⟨rfl, hr, HG.out⟩

theorem bs_block {w : World} {v : Value} {l : List UInt8} (h : Bs w v l) (h0 : 0 < l.length) : ∀ g, v.ownBlock = some g → g < w.heap.size := by
  intro g hg
  obtain ⟨ao, c, rfl, _, _, h3⟩ := h
  obtain ⟨g', o, rfl, hc⟩ := h3 0 h0
  simp only [Value.ownBlock, Option.some.injEq] at hg
  subst hg
  exact World.block_lt_of_cell? w _ hc
theorem sev_set (n : Nat) {k : Nat} (h : k < n) : (List.replicate k (77 : UInt8) ++ List.replicate (n - k) 0).set k 77 = List.replicate (k + 1) 77 ++ List.replicate (n - (k + 1)) 0 := by
  rw [List.set_append_right _ _ (by simp), List.length_replicate, Nat.sub_self, show n - k = (n - (k + 1)) + 1 by omega, List.replicate_succ, List.set_cons_zero, List.replicate_succ' (n := k), List.append_assoc]
  rfl
set_option maxHeartbeats 1000000 in
set_option maxRecDepth 100000 in
theorem sevens_any (n : Nat) (w : World) (hn : n ≤ 140737488355328) :
    Calls Try.prog 13 #[.int .i64 n] w fun e w' => e = .returned (.slice (some ⟨w.heap.size, 0, none⟩) n n) ∧ Row w' w.heap.size (List.replicate n 77) ∧ Below w.heap.size w w' := by
  obtain ⟨i0, hi, hz0, hz1, hz2⟩ := info_parts info5
  go_enter Try.func13, Try.ntmps13
  go_wp2_with (at_make; refine wpList_make_full _ rfl _ _ 22 rfl w.heap.size 5 i0 (.int .u8 0) 1 Try.underlying22 hi hz0 hz1 .i64 .i64 _ _ n rfl rfl ?c1 ?c2 ?c3 ?c4 ?c5 ?_)
  case c1 => rfl
  case c2 => rfl
  case c3 => rw [hz2]; omega
  case c4 => unfold maxLen; omega
  case c5 => exact Nat.le_refl _
  intro w1 hown hgrow
  rw [made_bytes] at hown
  have hb1 : Below w.heap.size w w1 := (Below.refl _ _).grown hgrow (Nat.le_refl _) (by intro k hk; cases hk)
  have HR1 := hide (own_block hown).1
  clear hown hgrow
  go_wp2_with fail
  go_loopw [4] (fun i wr => ∃ k : Nat, k ≤ n ∧ i = .int .i64 k ∧ Row wr w.heap.size (List.replicate k 77 ++ List.replicate (n - k) 0) ∧ Below w.heap.size w wr) (fun i _ => n - (intOf i).toNat)
  case atStart => exact ⟨0, Nat.zero_le _, rfl, by simpa using HR1.out, hb1⟩
  case round =>
    obtain ⟨k, hk, rfl, hr, hb⟩ := hrel
    by_cases hlt : k < n
    · have e1 : (k : Int) < (n : Int) := by omega
      have hfz := hr.frozen k
      have hcl := hr.cell k (by simp; omega)
      have HR := hide hr
      clear hr
      go_wp2_with fail
      refine ⟨⟨k + 1, by omega, by go_num, ?_, hb.setCell (Nat.le_refl _) _⟩, by simp [intOf]; omega⟩
      have := HR.out.set k 77
      rw [sev_set n hlt] at this
      exact this
    · have e1 : ¬ (k : Int) < (n : Int) := by omega
      obtain rfl : k = n := by omega
      rw [Nat.sub_self, List.replicate_zero, List.append_nil] at hr
      go_wp2_with fail
      go_ret
      exact ⟨rfl, hr, hb⟩
end Go.Proofs.Ytkohlhnkaklnpaa
