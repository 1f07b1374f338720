/-
  The document's store: Cut and Crash.
-/
import Derived.Test.YtmceoelafmlpjaaDocMore
namespace Go.Proofs.Ytmceoelafmlpjaa
open Go.RowKit
section
variable {B g : Nat} {u1 u2 : Value} {L O : List UInt8} {f : Int}
set_option maxHeartbeats 1000000 in
theorem dcrash_off (vj : Value) (k : Int) (w : World) (h : Ds w B g u1 u2 L O true f) :
    Calls Try.prog 29 #[.pointer (some ⟨g, 0, none⟩), .int .i64 k, vj] w fun e w' => e = .returned (.int .i64 30) ∧ w' = w := by
  obtain ⟨c0, c1, c2, c3⟩ := h.cell
  clear h
  go_enter Try.func29, Try.ntmps29
  go_wp2_with fail
  go_ret
  exact ⟨rfl, rfl⟩
set_option maxHeartbeats 1000000 in
theorem dcrash_neg (vj : Value) (k : Int) (w : World) (h : Ds w B g u1 u2 L O false f) (hk : k < 0) :
    Calls Try.prog 29 #[.pointer (some ⟨g, 0, none⟩), .int .i64 k, vj] w fun e w' => e = .returned (.int .i64 1) ∧ w' = w := by
  obtain ⟨c0, c1, c2, c3⟩ := h.cell
  clear h
  go_enter Try.func29, Try.ntmps29
  go_wp2_with fail
  go_ret
  exact ⟨rfl, rfl⟩
set_option maxHeartbeats 2000000 in
set_option maxRecDepth 100000 in
theorem dcrash_full (vj : Value) (j : List UInt8) (k : Nat) (w : World) (h : Ds w B g u1 u2 L O false f) (hj : Bs w vj j) (hl : L.length + O.length ≤ 16777216) (hjs : j.length ≤ 1000000000) (hm : 16777216 < L.length + min k O.length + j.length) :
    Calls Try.prog 29 #[.pointer (some ⟨g, 0, none⟩), .int .i64 k, vj] w fun e w' => e = .returned (.int .i64 40) ∧ Below w.heap.size w w' := by
  obtain ⟨c0, c1, c2, c3⟩ := h.cell
  obtain ⟨aoj, ccj, rfl, -, -, -⟩ := hj
  obtain ⟨-, ⟨⟨ao1, cc1, rfl, -, -, -⟩, -⟩, ⟨⟨ao2, cc2, rfl, -, -, -⟩, -⟩, -⟩ := h
  obtain ⟨m, hmm⟩ : ∃ m, m = min k O.length := ⟨_, rfl⟩
  rw [← hmm] at hm
  have t0 : ¬ (k : Int) < 0 := by omega
  have hmO : m ≤ O.length := by omega
  have hmin : (if O.length < k then (O.length : Int) else (k : Int)) = (m : Int) := by split <;> omega
  have e1 : IntKind.i64.wrap ((L.length : Int) + (m : Int)) = (L.length : Int) + (m : Int) := by rw [IntKind.wrap_i64]; omega
  have e2 : IntKind.i64.wrap ((L.length : Int) + (m : Int) + (j.length : Int)) = (L.length : Int) + (m : Int) + (j.length : Int) := by rw [IntKind.wrap_i64]; omega
  have e3 : (L.length : Int) + (m : Int) + (j.length : Int) > 16777216 := by omega
  clear hmm
  go_enter Try.func29, Try.ntmps29
  go_wp2_with fail
  go_quiet (fail)
  go_wp2_with fail
  go_ret
  exact ⟨rfl, below_drawn w nq⟩
set_option maxHeartbeats 2000000 in
set_option maxRecDepth 100000 in
theorem dcrash_any (vj : Value) (j : List UInt8) (k : Nat) (w : World) (h : Ds w B g u1 u2 L O false f) (hj : Bs w vj j) (hnj : NilOr vj) (hl : L.length + O.length ≤ 16777216) (hjs : j.length ≤ 100000000) (hm : L.length + min k O.length + j.length ≤ 16777216) :
    Calls Try.prog 29 #[.pointer (some ⟨g, 0, none⟩), .int .i64 k, vj] w fun e w' => e = .returned (.int .i64 0) ∧ ∃ v1 v2, Ds w' B g v1 v2 (L ++ O.take (min k O.length) ++ j) [] true (-1) ∧ Dn w w' g u1 u2 v1 v2 := by
  have HF : Hid (∀ n, _) := fun n => fails_any k vj j (w.drewN n) (h.later (below_drawn w n)) (hj.on (below_drawn w n)) hnj (by omega)
  obtain ⟨c0, c1, c2, c3⟩ := h.cell
  obtain ⟨aoj, ccj, rfl, -, -, -⟩ := hj
  obtain ⟨-, ⟨⟨ao1, cc1, rfl, -, -, -⟩, -⟩, ⟨⟨ao2, cc2, rfl, -, -, -⟩, -⟩, -⟩ := h
  obtain ⟨m, hmm⟩ : ∃ m, m = min k O.length := ⟨_, rfl⟩
  rw [← hmm] at hm HF ⊢
  have t0 : ¬ (k : Int) < 0 := by omega
  have hmO : m ≤ O.length := by omega
  have hmin : (if O.length < k then (O.length : Int) else (k : Int)) = (m : Int) := by split <;> omega
  have e1 : IntKind.i64.wrap ((L.length : Int) + (m : Int)) = (L.length : Int) + (m : Int) := by rw [IntKind.wrap_i64]; omega
  have e2 : IntKind.i64.wrap ((L.length : Int) + (m : Int) + (j.length : Int)) = (L.length : Int) + (m : Int) + (j.length : Int) := by rw [IntKind.wrap_i64]; omega
  have e3 : ¬ (L.length : Int) + (m : Int) + (j.length : Int) > 16777216 := by omega
  clear hmm
  go_enter Try.func29, Try.ntmps29
  go_wp2_with fail
  go_quiet (fail)
  go_wp2_with fail
  refine (HF.out nq).mono ?_
  rintro e w1 ⟨rfl, v1, v2, hs, hd⟩
  have HS := hide hs
  have HD := hide (((Dn.refl w g _ _).later (below_drawn w nq)).trans hd)
  clear hs hd
  go_wp2_with fail
  go_ret
  exact ⟨rfl, _, _, HS.out, HD.out⟩
set_option maxHeartbeats 1000000 in
theorem dcut_off (q : Int) (w : World) (h : Ds w B g u1 u2 L O true f) :
    Calls Try.prog 25 #[.pointer (some ⟨g, 0, none⟩), .int .i64 q] w fun e w' => e = .returned (.int .i64 30) ∧ w' = w := by
  obtain ⟨c0, c1, c2, c3⟩ := h.cell
  clear h
  go_enter Try.func25, Try.ntmps25
  go_wp2_with fail
  go_ret
  exact ⟨rfl, rfl⟩
set_option maxHeartbeats 1000000 in
theorem dcut_arg (q : Int) (w : World) (h : Ds w B g u1 u2 L O false f) (hl : L.length + O.length ≤ 16777216) (hq : q < 0 ∨ ((L.length + O.length : Nat) : Int) < q) :
    Calls Try.prog 25 #[.pointer (some ⟨g, 0, none⟩), .int .i64 q] w fun e w' => e = .returned (.int .i64 1) ∧ Below w.heap.size w w' := by
  have J := hide (size_any (w0 := w) w h (by omega) (Below.refl _ _))
  obtain ⟨c0, c1, c2, c3⟩ := h.cell
  clear h
  by_cases h0 : q < 0
  · clear hq
    go_enter Try.func25, Try.ntmps25
    go_wp2_with fail
    go_ret
    exact ⟨rfl, Below.refl _ _⟩
  · obtain ⟨n, hn⟩ : ∃ n, n = L.length + O.length := ⟨_, rfl⟩
    rw [← hn] at hq J
    have h1 : q > (n : Int) := by omega
    clear hq hn
    go_enter Try.func25, Try.ntmps25
    go_wp2_with fail
    refine J.out.mono ?_
    rintro e w1 ⟨rfl, hb, -⟩
    have HB := hide hb
    clear hb J
    go_wp2_with fail
    go_ret
    exact ⟨rfl, HB.out⟩
set_option maxHeartbeats 2000000 in
set_option maxRecDepth 100000 in
theorem dcut_low (k : Nat) (w : World) (h : Ds w B g u1 u2 L O false f) (hl : L.length + O.length ≤ 16777216) (hk : k ≤ L.length) :
    Calls Try.prog 25 #[.pointer (some ⟨g, 0, none⟩), .int .i64 k] w fun e w' => e = .returned (.int .i64 0) ∧ ∃ v1 v2, Ds w' B g v1 v2 (L.take k) [] false f ∧ Dn w w' g u1 u2 v1 v2 := by
  have J := hide (size_any (w0 := w) w h (by omega) (Below.refl _ _))
  have H := hide h
  obtain ⟨-, ⟨⟨ao1, cc1, rfl, hc1, -, -⟩, -⟩, ⟨⟨ao2, cc2, rfl, -, -, -⟩, -⟩, -⟩ := id h
  have c2 := h.cell.2.2.1
  have hlt : (L.take k).length = k := by rw [List.length_take]; omega
  have J2 : Hid (∀ W, Below w.heap.size w W → Calls Try.prog 35 #[.slice ao1 k cc1, .slice none 0 0] W fun e w' => ∃ ao c, e = .returned (.slice ao k c) ∧ Hid (Ds w' B g (.slice ao1 L.length cc1) (.slice ao2 O.length cc2) L O false f ∧ Below w.heap.size w w' ∧ w'.ownsRow w.heap.size 5 1 (.slice ao k c) k (Lib.byteCells (L.take k))) ∧ w'.cell? ⟨g, 0, none⟩ = some (.slice ao1 L.length cc1) ∧ w'.frozen? ⟨g, 0, none⟩ = false) := fun W hW =>
    (joined_ds h W hW _ _ (L.take k) [] (bs_take (h.2.1.1.on hW) hk) (nil_part h.2.1.2 hk) (Bs.nil W) (.inl rfl) (by rw [hlt]; simp; omega)).mono (by
      rintro e w' ⟨ao, c, rfl, hh, d0, -, y0, -⟩
      rw [hlt, List.append_nil, List.length_nil, Nat.add_zero] at hh
      exact ⟨ao, c, by rw [hlt]; rfl, hh, d0, y0⟩)
  obtain ⟨n, hn⟩ : ∃ n, n = L.length + O.length := ⟨_, rfl⟩
  have hkn : ¬ (k : Int) > (n : Int) := by omega
  have t0 : ¬ (k : Int) < 0 := by omega
  have t1 : (k : Int) ≤ (L.length : Int) := by omega
  have t2 : k ≤ cc1 := by omega
  rw [← hn] at J
  clear h hn hlt
  go_enter Try.func25, Try.ntmps25
  go_wp2_with fail
  refine J.out.mono ?_
  rintro e w1 ⟨rfl, hb, -⟩
  have d0 := (H.out.later hb).cell.1
  have HB := hide hb
  clear hb J
  go_wp2_with fail
  refine (J2.out _ HB.out).mono ?_
  rintro e w2 ⟨ao, c, rfl, HH, d0', y0'⟩
  have hS := HH.out.1.put1 (own_bs HH.out.2.2) (own_nilOr HH.out.2.2) (new_block H.out HH.out.2.2)
  have d1 := hS.cell.2.1
  have y1 := hS.frozen 1
  have HS := hide hS
  clear hS d0
  go_wp2_with fail
  go_ret
  exact ⟨rfl, _, _, HS.out.nil2, Dn.set (Dn.set (Dn.new2 (Dn.new1 ((Dn.refl w g _ _).later HH.out.2.1) (fun k hk => (HH.out.2.2.lt k hk).1)) (fun k hk => by simp [Value.ownBlock] at hk)) _ _) _ _⟩
set_option maxHeartbeats 2000000 in
set_option maxRecDepth 100000 in
theorem dcut_high (k : Nat) (w : World) (h : Ds w B g u1 u2 L O false f) (hl : L.length + O.length ≤ 16777216) (hk : L.length < k) (hk2 : k ≤ L.length + O.length) :
    Calls Try.prog 25 #[.pointer (some ⟨g, 0, none⟩), .int .i64 k] w fun e w' => e = .returned (.int .i64 0) ∧ ∃ v1 v2, Ds w' B g v1 v2 L (O.take (k - L.length)) false f ∧ Dn w w' g u1 u2 v1 v2 := by
  have J := hide (size_any (w0 := w) w h (by omega) (Below.refl _ _))
  have H := hide h
  obtain ⟨-, ⟨⟨ao1, cc1, rfl, hc1, -, -⟩, -⟩, ⟨⟨ao2, cc2, rfl, hc2, -, -⟩, -⟩, -⟩ := id h
  have c2 := h.cell.2.2.1
  obtain ⟨m, hm⟩ : ∃ m, m = k - L.length := ⟨_, rfl⟩
  rw [← hm]
  have hmO : m ≤ O.length := by omega
  have hlt : (O.take m).length = m := by rw [List.length_take]; omega
  have J2 : Hid (∀ W, Below w.heap.size w W → Calls Try.prog 35 #[.slice ao2 m cc2, .slice none 0 0] W fun e w' => ∃ ao c, e = .returned (.slice ao m c) ∧ Hid (Ds w' B g (.slice ao1 L.length cc1) (.slice ao2 O.length cc2) L O false f ∧ Below w.heap.size w w' ∧ w'.ownsRow w.heap.size 5 1 (.slice ao m c) m (Lib.byteCells (O.take m))) ∧ w'.cell? ⟨g, 1, none⟩ = some (.slice ao2 O.length cc2) ∧ w'.frozen? ⟨g, 1, none⟩ = false) := fun W hW =>
    (joined_ds h W hW _ _ (O.take m) [] (bs_take (h.2.2.1.1.on hW) hmO) (nil_part h.2.2.1.2 hmO) (Bs.nil W) (.inl rfl) (by rw [hlt]; simp; omega)).mono (by
      rintro e w' ⟨ao, c, rfl, hh, -, d1, -, y1⟩
      rw [hlt, List.append_nil, List.length_nil, Nat.add_zero] at hh
      exact ⟨ao, c, by rw [hlt]; rfl, hh, d1, y1⟩)
  obtain ⟨n, hn⟩ : ∃ n, n = L.length + O.length := ⟨_, rfl⟩
  have hkn : ¬ (k : Int) > (n : Int) := by omega
  have t0 : ¬ (k : Int) < 0 := by omega
  have t1 : ¬ (k : Int) ≤ (L.length : Int) := by omega
  have t2 : m ≤ cc2 := by omega
  have t3 : IntKind.i64.wrap ((k : Int) - (L.length : Int)) = (m : Int) := by rw [IntKind.wrap_i64]; omega
  have t4 : (0 : Int) ≤ (m : Int) := by omega
  have t5 : (m : Int) ≤ (cc2 : Int) := by omega
  rw [← hn] at J
  clear h hn hlt hm
  go_enter Try.func25, Try.ntmps25
  go_wp2_with fail
  refine J.out.mono ?_
  rintro e w1 ⟨rfl, hb, -⟩
  have d0 := (H.out.later hb).cell.1
  have d1 := (H.out.later hb).cell.2.1
  have HB := hide hb
  clear hb J
  go_wp2_with fail
  go_region_with (go_at_call 35; refine (J2.out _ (HB.out.trans ((drew_on _).mono HB.out.size))).mono ?_; rintro e w2 ⟨aoy, cy, rfl, HH, d1', y1⟩)
  all_goals
    have hP := part_own H.out HH.out.2.1 HH.out.1 HH.out.2.2
    have HP := hide hP
    clear hP d0 d1
    go_wp2_with fail
    go_ret
    exact ⟨rfl, _, _, HP.out⟩
end
end Go.Proofs.Ytmceoelafmlpjaa
