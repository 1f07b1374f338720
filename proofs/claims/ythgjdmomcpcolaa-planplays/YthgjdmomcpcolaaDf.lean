/-
  The document's plan: Stages.
-/
import Derived.Test.YthgjdmomcpcolaaDe
import Derived.Test.YthgjdmomcpcolaaKc
namespace Go.Proofs.Ythgjdmomcpcolaa
open Go.RowKit
set_option maxRecDepth 100000
/-- A stage, as it is sought. -/
def fs (L : List Sy) (j n : Nat) : List Nat := (List.range n).filter fun k => sg L k == j
theorem fs_add (L : List Sy) (j n : Nat) : fs L j (n + 1) = if sg L n = j then fs L j n ++ [n] else fs L j n := by
  unfold fs
  rw [List.range_succ, List.filter_append]
  by_cases h : sg L n = j
  · simp [h]
  · simp [h]
theorem fs_len (L : List Sy) (j n : Nat) : (fs L j n).length ≤ n := by
  have := List.length_filter_le (fun k => sg L k == j) (List.range n)
  rwa [List.length_range] at this
theorem sg_down (L : List Sy) : ∀ m x, x < m → x < L.length → ∀ s, s ≤ sg L x → ∃ k, k < L.length ∧ sg L k = s := by
  intro m
  induction m with
  | zero => exact fun x h => absurd h (by omega)
  | succ m ih =>
    intro x h1 h2 s hs
    by_cases e : s = sg L x
    · exact ⟨x, h2, e.symm⟩
    · rcases sg_why L x h2 with h | ⟨k, k1, k2, k3⟩
      · omega
      · exact ih k (by omega) (by omega) s (by omega)
theorem fs_some {L : List Sy} {s : Nat} (h : fs L s L.length ≠ []) : s < L.length := by
  obtain ⟨x, hx⟩ := List.exists_mem_of_ne_nil _ h
  unfold fs at hx
  rw [List.mem_filter, List.mem_range] at hx
  have e : sg L x = s := by simpa using hx.2
  have := sg_small L (x + 1) x (by omega) hx.1
  omega
theorem fs_all {L : List Sy} {s : Nat} (h0 : fs L s L.length = []) (hs : ∀ j, j < s → fs L j L.length ≠ []) : StOf L L.length ((List.range s).map fun j => fs L j L.length) := by
  refine ⟨fun k hk => ?_, fun j hj => ?_⟩
  · rw [List.length_map, List.length_range]
    apply Classical.byContradiction
    intro c
    obtain ⟨x, x1, x2⟩ := sg_down L (k + 1) k (by omega) hk s (by omega)
    have : x ∈ fs L s L.length := by
      unfold fs
      rw [List.mem_filter, List.mem_range]
      exact ⟨x1, by simp [x2]⟩
    rw [h0] at this
    cases this
  · have hj' : j < s := by simpa using hj
    have e : ((List.range s).map fun j => fs L j L.length)[j] = fs L j L.length := by simp
    rw [e]
    exact ⟨rfl, hs j hj'⟩
/-- A stage is put behind. -/
theorem Ss.add {W W' : World} {B : Nat} {v v' r : Value} {rs : List Value} {sts : List (List Nat)} {st : List Nat} (h : Ss W B v rs sts) (hr : Rw W B r (up st)) (ha : ∀ x ∈ rs, Ap x r) (hg : W.grownBy W' v.ownBlock) (ho : W'.ownsRow B 23 1 v' (rs.length + 1) (rs ++ [r])) : Ss W' B v' (rs ++ [r]) (sts ++ [st]) := by
  have hk : ∀ {x : Value} {l : List Int}, Rw W B x l → Rw W' B x l := fun hx => own_kept hx hg (fun k hk e => own_apart h.1 hx (by decide) k e hk)
  refine ⟨by simpa using ho, by simp [h.2.1], fun j hj hj2 => ?_, fun i j hi hj hij => ?_⟩
  · by_cases c : j < rs.length
    · rw [List.getElem_append_left c, List.getElem_append_left (by rw [← h.2.1]; exact c)]
      exact hk (h.2.2.1 j c (by rw [← h.2.1]; exact c))
    · have hjl : j = rs.length := by simp at hj; omega
      subst hjl
      rw [List.getElem_append_right (Nat.le_refl _), List.getElem_append_right (by rw [h.2.1]; omega)]
      simp only [h.2.1, Nat.sub_self, List.getElem_cons_zero]
      exact hk hr
  · by_cases ci : i < rs.length
    · by_cases cj : j < rs.length
      · rw [List.getElem_append_left ci, List.getElem_append_left cj]
        exact h.2.2.2 i j ci cj hij
      · have e : j = rs.length := by simp at hj; omega
        subst e
        rw [List.getElem_append_left ci, List.getElem_append_right (Nat.le_refl _)]
        simp only [Nat.sub_self, List.getElem_cons_zero]
        exact ha _ (List.getElem_mem ci)
    · have e : i = rs.length := by simp at hi; omega
      subst e
      have cj : j < rs.length := by simp at hj; omega
      rw [List.getElem_append_right (Nat.le_refl _), List.getElem_append_left cj]
      simp only [Nat.sub_self, List.getElem_cons_zero]
      exact (ha _ (List.getElem_mem cj)).symm
theorem Ss.lower {W : World} {B B' : Nat} {v : Value} {rs : List Value} {sts : List (List Nat)} (h : Ss W B v rs sts) (hB : B' ≤ B) : Ss W B' v rs sts := ⟨own_lower h.1 hB, h.2.1, fun j h1 h2 => own_lower (h.2.2.1 j h1 h2) hB, h.2.2.2⟩
set_option maxHeartbeats 8000000 in
theorem dstages_any {w : World} {B g : Nat} {L : List Sy} (h : Dp w B g L) : Calls Try.prog 27 #[.pointer (some ⟨g, 0, none⟩)] w fun e w' => ∃ v rs sts, e = .returned v ∧ Ss w' w.heap.size v rs sts ∧ StOf L L.length sts ∧ Below w.heap.size w w' := by
  have J := hide (dstage_any h)
  obtain ⟨n, hn⟩ : ∃ n, n = L.length := ⟨_, rfl⟩
  have hn1 : n ≤ 1000 := by
    obtain ⟨_, _, _, _, _, _, _, _, _, _, h7, _⟩ := h
    omega
  have HN := hide hn
  have HN1 := hide hn1
  have hnb : (n : Int) ≤ 9223372036854775806 := by omega
  obtain ⟨i3, hi3, hz30, hz31, hz32⟩ := info_parts info23
  clear h hn hn1
  go_enter Try.func27, Try.ntmps27
  go_wp2_with fail
  refine J.out.mono ?_
  rintro e w1 ⟨v1, rfl, h1, b1⟩
  have e1 : (stm L L.length).length = n := by rw [stm_len]; exact HN.out.symm
  obtain ⟨a1, c1, rfl⟩ := own_len h1
  obtain ⟨k1, k2⟩ := own_cap h1
  have H1 : Hid (∀ W, Below w1.heap.size w1 W → W.ownsRow w.heap.size 3 1 (.slice a1 n c1) n (zc (stm L L.length))) := fun W hW => by
    have := own_later h1 hW
    unfold Rw at this
    rw [e1] at this
    exact this
  have B1 := hide b1
  rw [e1] at k1 ⊢
  clear h1 b1 e1 J
  go_wp2_with fail
  go_loopw [3, 5] (fun v3 v5 W => ∃ s : Nat, ∃ rs, s ≤ n ∧ v5 = .int .i64 (s : Int) ∧ Hid (Ss W w1.heap.size v3 rs ((List.range s).map fun j => fs L j n) ∧ (∀ j, j < s → fs L j n ≠ []) ∧ Below w1.heap.size w1 W)) (fun _ v5 _ => n + 1 - (intOf v5).toNat)
  case atStart => exact ⟨0, [], Nat.zero_le _, rfl, Ss.nil _ _, fun j hj => absurd hj (by omega), Below.refl _ _⟩
  case round =>
    obtain ⟨s, rs, hs, rfl, HR⟩ := hrel
    obtain ⟨X0, rfl⟩ : ∃ X, X = wr := ⟨_, rfl⟩
    obtain ⟨a3, c3, rfl⟩ := own_len HR.out.1.1
    have Q0 : Hid (X0.ownsRow X0.heap.size 3 1 (.slice none 0 0) (fs L s 0).length (zc (up (fs L s 0))) ∧ Below X0.heap.size X0 X0) := ⟨by simp [fs, up, zc, World.ownsRow], Below.refl _ _⟩
    go_wp2_with fail
    go_loopw [6, 7] (fun v6 v7 W => ∃ i : Nat, i ≤ n ∧ v7 = .int .i64 (i : Int) ∧ Hid (W.ownsRow X0.heap.size 3 1 v6 (fs L s i).length (zc (up (fs L s i))) ∧ Below X0.heap.size X0 W)) (fun _ v7 _ => n - (intOf v7).toNat)
    case atStart => exact ⟨0, Nat.zero_le _, rfl, Q0.out⟩
    case round =>
      obtain ⟨i, hi, rfl, HI⟩ := hrel
      clear Q0
      obtain ⟨m, hm⟩ : ∃ m, m = (fs L s i).length := ⟨_, rfl⟩
      have hmn : m ≤ 1000 := by have := fs_len L s i; have := HN1.out; omega
      have HM := hide hm
      have HO : Hid (∀ (u : Value) (W : World), W.ownsRow X0.heap.size 3 1 u (fs L s i).length (zc (up (fs L s i))) → W.ownsRow X0.heap.size 3 1 u m (zc (up (fs L s i)))) := fun u W hu => by rw [hm]; exact hu
      have h6 := HO.out _ _ HI.out.1
      obtain ⟨a6, c6, rfl⟩ := own_len h6
      obtain ⟨hc61, hc62⟩ := own_cap h6
      have HMN := hide hmn
      clear hm hmn
      by_cases hlt : i < n
      · have t1 : (i : Int) < (n : Int) := by omega
        have hr1 := H1.out wr (below_on HR.out.2.2 HI.out.2)
        obtain ⟨ga, ca, ea, -, -⟩ := own_form hr1 (by omega)
        simp only [Value.slice.injEq, true_and] at ea
        obtain ⟨rfl, rfl⟩ := ea
        have d1 : wr.cell? ⟨ga, i, none⟩ = some (.int .i64 (sg L i : Int)) := by
          rw [hr1.cellAt i (by omega), zc_at _ i (by rw [stm_len, ← HN.out]; exact hlt), stm_at]
        have H6 := hide h6
        clear hr1 h6
        by_cases hsg : sg L i = s
        · have HF : Hid (fs L s (i + 1) = fs L s i ++ [i]) := by unfold Hid; rw [fs_add, if_pos hsg]
          rw [hsg] at d1
          clear hsg
          go_wp2_with (at_builtin; refine wpList_append_nums rfl _ _ rfl X0.heap.size (.slice a6 m c6) m (zc (up (fs L s i))) rfl ?p1 (.slice (some ⟨wr.heap.size, 0, none⟩) 1 1) [(i : Int)] rfl (Rl.lit wr _) ?p2 ?p3 ?_)
          case p1 => exact own_later H6.out (below_alloc wr _)
          case p2 => have := HMN.out; simp; omega
          case p3 => have := HI.out.2.size; simp; omega
          intro v9 w9 h9 hg9 _
          have HN9 : Hid (w9.ownsRow X0.heap.size 3 1 v9 (fs L s (i + 1)).length (zc (up (fs L s (i + 1)))) ∧ Below X0.heap.size X0 w9) := by
            refine ⟨?_, ?_⟩
            · rw [HF.out, up_add, zc_append, List.length_append, ← HM.out]
              exact h9
            · have hb := below_on HI.out.2 (below_alloc wr (.cells #[.int .i64 (i : Int)] 3))
              exact hb.grown hg9 hb.size (fun q e => (H6.out.lt q e).1)
          obtain ⟨a9, c9, rfl⟩ := own_len h9
          clear h9 hg9
          go_wp2_with fail
          go_roundw
          case rel => exact ⟨i + 1, by omega, rfl, HN9.out⟩
          case measure => simp only [intOf]; omega
        · have t2 : ¬ (sg L i : Int) = (s : Int) := by omega
          have t3 : decide ((sg L i : Int) = (s : Int)) = false := decide_eq_false t2
          have HF : Hid (wr.ownsRow X0.heap.size 3 1 (.slice a6 m c6) (fs L s (i + 1)).length (zc (up (fs L s (i + 1)))) ∧ Below X0.heap.size X0 wr) := by
            refine ⟨?_, HI.out.2⟩
            rw [fs_add, if_neg hsg, ← HM.out]
            exact H6.out
          generalize sg L i = y at *
          clear hsg
          go_wp2_with fail
          go_roundw
          case rel => exact ⟨i + 1, by omega, rfl, HF.out⟩
          case measure => simp only [intOf]; omega
      · have t1 : ¬ (i : Int) < (n : Int) := by omega
        obtain rfl : i = n := by omega
        have H6 := hide h6
        have hsz0 := HR.out.2.2.size
        have hB1 := B1.out.size
        by_cases h0 : m = 0
        · have HE : Hid (fs L s i = []) := List.eq_nil_of_length_eq_zero (by have := HM.out; omega)
          subst h0
          have HF : Hid (Ss wr w.heap.size (.slice a3 rs.length c3) rs ((List.range s).map fun j => fs L j i) ∧ StOf L L.length ((List.range s).map fun j => fs L j i) ∧ Below w.heap.size w wr) := by
            refine ⟨(HR.out.1.later HI.out.2).lower hB1, ?_, below_on B1.out (below_on HR.out.2.2 HI.out.2)⟩
            have hnn := HN.out
            rw [hnn]
            exact fs_all (by have := HE.out; rw [hnn] at this; exact this) (fun j hj => by have := HR.out.2.1 j hj; rw [hnn] at this; exact this)
          clear h6 HO HM
          go_wp2_with fail
          go_ret
          exact ⟨_, rfl, rs, _, HF.out⟩
        · have t2 : ¬ (m : Int) = 0 := by omega
          have hsn : s < i := by
            have hnn := HN.out
            have : fs L s L.length ≠ [] := fun e => h0 (by have := HM.out; rw [hnn, e] at this; exact this)
            have := fs_some this
            omega
          have HS0 : Hid (fs L s i ≠ []) := fun e => h0 (by have := HM.out; rw [e] at this; exact this)
          have hrl : rs.length ≤ 1000 := by
            have := HR.out.1.2.1
            rw [List.length_map, List.length_range] at this
            have := HN1.out
            omega
          have HRL := hide hrl
          clear h6 HO hrl
          go_wp2_with (at_builtin; refine wpList_append_kept rfl _ _ 32 rfl w1.heap.size 23 i3 (.slice none 0 0) 1 24 Try.underlying32 hi3 hz30 hz31 hz32 rfl (by decide) (.slice a3 rs.length c3) rs.length rs rfl ?p1 ⟨wr.heap.size, 0, none⟩ 1 1 [.slice a6 m c6] rfl rfl (lit_cells wr _ 23) (fun u hu => by rw [List.mem_singleton.1 hu]; rfl) ?p3 ?p4 ?p5 ?_)
          case p1 => exact own_later (HR.out.1.later HI.out.2).1 (below_alloc wr _)
          case p3 => have := HRL.out; unfold maxLen; omega
          case p4 => have := HRL.out; omega
          case p5 => have := HI.out.2.size; omega
          intro v8 w8 h8 hg8 _ _
          have HF : Hid (Ss w8 w1.heap.size v8 (rs ++ [.slice a6 m c6]) ((List.range (s + 1)).map fun j => fs L j i) ∧ (∀ j, j < s + 1 → fs L j i ≠ []) ∧ Below w1.heap.size w1 w8) := by
            have hbA := below_alloc wr (.cells #[.slice a6 m c6] 23)
            refine ⟨?_, fun j hj => ?_, ?_⟩
            · rw [List.range_succ, List.map_append, List.map_cons, List.map_nil]
              have hr6 : Rw (wr.alloc (.cells #[.slice a6 m c6] 23)) w1.heap.size (.slice a6 m c6) (up (fs L s i)) := by
                unfold Rw
                rw [up_len, ← HM.out]
                exact own_lower (own_later H6.out hbA) (by omega)
              refine ((HR.out.1.later HI.out.2).later hbA).add hr6 (fun x hx k e1 e2 => ?_) hg8 h8
              have := (H6.out.lt k e2).1
              have := HR.out.1.lt.2 x hx k e1
              omega
            · by_cases e : j = s
              · subst e
                exact HS0.out
              · exact HR.out.2.1 j (by omega)
            · have hb := below_on (below_on HR.out.2.2 HI.out.2) hbA
              exact ⟨(hg8.1).trans hb.os, hg8.2.trans hb.tape, hg8.3.trans hb.output, Nat.le_trans hb.size hg8.size, fun k hk => (hg8.block k (Nat.lt_of_lt_of_le hk hb.size) (fun e => by
                have := (HR.out.1.1.lt k e.symm).1
                omega)).trans (hb.block k hk)⟩
          obtain ⟨a8, c8, rfl⟩ := own_len h8
          clear h8 hg8
          go_wp2_with fail
          go_roundw
          case rel => exact ⟨s + 1, _, by omega, rfl, HF.out⟩
          case measure => simp only [intOf]; omega
end Go.Proofs.Ythgjdmomcpcolaa
