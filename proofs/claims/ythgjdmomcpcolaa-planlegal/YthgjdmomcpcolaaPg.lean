/-
  PlanLegal: the stages and the orders of a plan are legal.
-/
import Derived.Test.YthgjdmomcpcolaaSw
namespace Go.Proofs.Ythgjdmomcpcolaa
open Go.RowKit
set_option maxRecDepth 100000
/-- Under way: the stages that are written down. -/
def Pg (w3 : World) (ga n : Nat) (L : List Sy) (s : Nat) (Y : List Nat) (W : World) : Prop := ∃ A : List Int, A.length = n ∧ Rw W w3.heap.size (.slice (some ⟨ga, 0, none⟩) n n) A ∧ (∀ x (hx : x < A.length), (sg L x < s ∨ x ∈ Y) → A[x] = (sg L x : Int)) ∧ Below w3.heap.size w3 W
section
variable {w3 W W' : World} {ga n s : Nat} {L : List Sy} {Y : List Nat}
theorem Pg.later (h : Pg w3 ga n L s Y W) (hb : Below W.heap.size W W') : Pg w3 ga n L s Y W' := by
  obtain ⟨A, h1, h2, h3, h4⟩ := h
  exact ⟨A, h1, own_later h2 hb, h3, below_on h4 hb⟩
theorem Pg.at (h : Pg w3 ga n L s Y W) (x : Nat) (hx : x < n) (hc : sg L x < s ∨ x ∈ Y) : W.cell? ⟨ga, x, none⟩ = some (.int .i64 (sg L x : Int)) := by
  obtain ⟨A, h1, h2, h3, h4⟩ := h
  have := h2.cells x (by omega)
  rw [h3 x (by omega) hc] at this
  exact this
theorem Pg.cell (h : Pg w3 ga n L s Y W) (x : Nat) (hx : x < n) : (∃ z, W.cell? ⟨ga, x, none⟩ = some (.int .i64 z)) ∧ W.frozen? ⟨ga, x, none⟩ = false := by
  obtain ⟨A, h1, h2, h3, h4⟩ := h
  subst h1
  exact ⟨⟨_, h2.at x hx⟩, h2.frozenAt x⟩
theorem Pg.put (h : Pg w3 ga n L s Y W) (x : Nat) (hx : sg L x = s) : Pg w3 ga n L s (Y ++ [x]) (W.setCell ⟨ga, x, none⟩ (.int .i64 (s : Int))) := by
  obtain ⟨A, h1, h2, h3, h4⟩ := h
  subst h1
  refine ⟨A.set x (s : Int), by simp, Rw.set1 h2 x _, fun y hy hc => ?_, h4.setCell (p := ⟨ga, x, none⟩) (h2.lt ga rfl).1 _⟩
  rw [List.getElem_set]
  by_cases e : x = y
  · rw [if_pos e, ← e, hx]
  · rw [if_neg e]
    refine h3 y _ ?_
    rcases hc with hc | hc
    · exact .inl hc
    · rcases List.mem_append.1 hc with hc | hc
      · exact .inr hc
      · exact absurd (List.mem_singleton.1 hc).symm e
theorem Pg.next {sts : List (List Nat)} (h : Pg w3 ga n L s Y W) (hs : StOf L n sts) (hl : s < sts.length) (hy : Y = sts[s]) : Pg w3 ga n L (s + 1) [] W := by
  obtain ⟨A, h1, h2, h3, h4⟩ := h
  refine ⟨A, h1, h2, fun x hx hc => h3 x hx ?_, h4⟩
  rcases hc with hc | hc
  · by_cases e : sg L x < s
    · exact .inl e
    · refine .inr ?_
      rw [hy, (hs.2 s hl).1]
      exact List.mem_filter.2 ⟨List.mem_range.2 (by omega), by simp; omega⟩
  · cases hc
theorem Pg.below (h : Pg w3 ga n L s Y W) : Below w3.heap.size w3 W := by
  obtain ⟨A, h1, h2, h3, h4⟩ := h
  exact h4
end
/-- Under way: what is seen of the order. -/
def Pb (w5 : World) (gb n : Nat) (o : List Int) (i : Nat) (W : World) : Prop := ∃ bl : List Bool, bl.length = n ∧ (∀ j (h : j < bl.length), bl[j] = true ↔ (j : Int) ∈ o.take i) ∧ W.ownsRow w5.heap.size 4 1 (.slice (some ⟨gb, 0, none⟩) n n) n (bc bl) ∧ Below w5.heap.size w5 W
section
variable {w5 W W' : World} {gb n i : Nat} {o : List Int}
theorem Pb.later (h : Pb w5 gb n o i W) (hb : Below W.heap.size W W') : Pb w5 gb n o i W' := by
  obtain ⟨bl, h1, h2, h3, h4⟩ := h
  exact ⟨bl, h1, h2, own_later h3 hb, below_on h4 hb⟩
theorem Pb.below (h : Pb w5 gb n o i W) : Below w5.heap.size w5 W := by
  obtain ⟨bl, h1, h2, h3, h4⟩ := h
  exact h4
theorem Pb.no (h : Pb w5 gb n o i W) (y : Nat) (hy : y < n) (hn : (y : Int) ∉ o.take i) : W.cell? ⟨gb, y, none⟩ = some (.bool false) ∧ W.frozen? ⟨gb, y, none⟩ = false := by
  obtain ⟨bl, h1, h2, h3, h4⟩ := h
  have e3 := h3.cellAt y (by omega)
  rw [bc_at bl y (by omega)] at e3
  have : bl[y]'(by omega) = false := by
    cases c : bl[y]'(by omega) with
    | false => rfl
    | true => exact absurd ((h2 y (by omega)).1 c) hn
  rw [this] at e3
  exact ⟨e3, h3.frozenAt y⟩
theorem Pb.put (h : Pb w5 gb n o i W) (y : Nat) (hi : i < o.length) (hy : o[i] = (y : Int)) : Pb w5 gb n o (i + 1) (W.setCell ⟨gb, y, none⟩ (.bool true)) := by
  obtain ⟨bl, h1, h2, h3, h4⟩ := h
  have h5 := (h3.stored y (.bool true)).1
  rw [bc_set] at h5
  refine ⟨bl.set y true, by simp [h1], fun j hj => ?_, h5, h4.setCell (p := ⟨gb, y, none⟩) (h3.lt gb rfl).1 _⟩
  rw [List.take_succ_eq_append_getElem hi, List.mem_append, hy, List.getElem_set]
  by_cases e : y = j
  · simp [e]
  · rw [if_neg e, h2 j (by simpa using hj)]
    simp only [List.mem_singleton]
    constructor
    · exact fun h => .inl h
    · rintro (h | h)
      · exact h
      · omega
end
theorem Lg.fresh {L : List Sy} {o : List Int} (h : Lg L o) (i : Nat) (hi : i < o.length) : o[i] ∉ o.take i := fun hm => by
  obtain ⟨j, hj, e⟩ := List.getElem_of_mem hm
  rw [List.length_take] at hj
  rw [List.getElem_take] at e
  exact (List.pairwise_iff_getElem.1 h.2.2 j i (by omega) hi (by omega)).1 e
theorem Lg.pair {L : List Sy} {o : List Int} (h : Lg L o) (k i : Nat) (hi : i < o.length) (hk : k < i) : Ythgjdmomcpcolaa.cz L o[k] o[i] = true → o[k] < o[i] := fun hc => by
  have h3 := List.pairwise_iff_getElem.1 h.2.2 k i (by omega) hi hk
  unfold Ythgjdmomcpcolaa.cz at hc
  rw [Bool.and_eq_true] at hc
  exact h3.2 hc.2
theorem stage_rise {L : List Sy} {n : Nat} {sts : List (List Nat)} (h : StOf L n sts) (s : Nat) (hs : s < sts.length) (i : Nat) (hi : i < sts[s].length) (i1 : Nat) (h1 : i1 < i) : sts[s][i1] < sts[s][i] := by
  have hp : sts[s].Pairwise (· < ·) := by
    rw [(h.2 s hs).1]
    exact List.Pairwise.filter _ List.pairwise_lt_range
  exact List.pairwise_iff_getElem.1 hp i1 i (by omega) hi h1
theorem stage_of {L : List Sy} {n : Nat} {sts : List (List Nat)} (h : StOf L n sts) (s : Nat) (hs : s < sts.length) (i : Nat) (hi : i < sts[s].length) : sts[s][i] < n ∧ sg L sts[s][i] = s := by
  have hm : ∀ y ∈ sts[s], y < n ∧ sg L y = s := by
    rw [(h.2 s hs).1]
    intro y hy
    obtain ⟨m1, m2⟩ := List.mem_filter.1 hy
    exact ⟨List.mem_range.1 m1, by simpa using m2⟩
  exact hm _ (List.getElem_mem hi)
set_option maxHeartbeats 16000000 in
theorem planlegal_any {w : World} {vl vr : Value} {l : List Sy} {raw : List Int} (h : Sa w vl l) (hr : Rl w vr raw) (hraw : ∀ x ∈ raw, InI x) : Calls Try.prog 4 #[vl, vr] w fun e w' => e = .returned (.bool true) ∧ Below w.heap.size w w' := by
  have H := hide h
  have HR := hide hr
  have HRI := hide hraw
  obtain ⟨al, cl, vs0, rfl, hl1, hl2, -⟩ := h
  obtain ⟨ar, cr, rfl, hr1, hr2, -⟩ := hr
  obtain ⟨i0, hi0, hz0, hz1, hz2⟩ := info_parts info3
  obtain ⟨j0, hj0, hy0, hy1, hy2⟩ := info_parts info4
  obtain ⟨L, hL⟩ : ∃ L, L = sysL l := ⟨_, rfl⟩
  obtain ⟨n, hn⟩ : ∃ n, n = L.length := ⟨_, rfl⟩
  have hnm : n = min l.length 200 := by rw [hn, hL, sysL_len]
  have HNL : Hid (n = L.length) := hn
  have HNB : Hid (n ≤ 200) := by
    unfold Hid
    omega
  have hmin : ∀ W ts t, (Builtin.min_ ts t #[.int .i64 (l.length : Int), .int .i64 200]).run Try.prog W = .ok (.int .i64 (n : Int)) W := fun W ts t => by
    rw [min_200, hnm]
  have HEL := hide hL
  clear hraw hn hnm hL
  go_enter Try.func4, Try.ntmps4
  go_wp2_with fail
  refine (shown_any w).mono ?_
  rintro e w1 ⟨rfl, b1⟩
  have B1 := hide b1
  clear b1
  go_wp2_with fail
  refine (made_any (H.out.later B1.out)).mono ?_
  rintro e w2 ⟨g, rfl, hP, b2⟩
  rw [← HEL.out] at hP
  have B2 : Hid (Below w.heap.size w w2) := below_on B1.out b2
  have HP := hide hP
  clear hP b2 B1
  go_wp2_with fail
  refine (stages_any HP.out).mono ?_
  rintro e w3 ⟨v3, rs, sts, rfl, hS, hSt, b3⟩
  have HB3 : Hid (Below w.heap.size w w3) := below_on B2.out b3
  have HPL : Hid (∀ W, Below w3.heap.size w3 W → Pl W w1.heap.size g L) := fun W hW => (HP.out.later b3).later hW
  rw [← HNL.out] at hSt
  have HST := hide hSt
  have HRL := hide hS.2.1
  obtain ⟨a3, c3, rfl⟩ := own_len hS.1
  obtain ⟨hc31, hc32⟩ := own_cap hS.1
  have HSS := hide hS
  clear hS hSt b3 HP B2 H hmin HEL
  go_wp2_with (at_make; refine wpList_make_full _ rfl _ _ 23 rfl w3.heap.size 3 i0 (.int .i64 0) 1 Try.underlying23 hi0 hz0 hz1 .i64 .i64 _ _ n rfl rfl ?c1 ?c2 ?c3 ?c4 ?c5 ?_)
  case c1 => rfl
  case c2 => rfl
  case c3 => have := HNB.out; rw [hz2]; omega
  case c4 => have := HNB.out; unfold maxLen; omega
  case c5 => omega
  intro w4 hown hgrow
  rw [toList_madeCells_one] at hown
  have HP0 : Hid (Pg w3 w3.heap.size n L 0 [] w4) := ⟨List.replicate n 0, by simp, by simpa [Rw, zc] using hown, fun x hx hc => by rcases hc with hc | hc <;> simp at hc, (Below.refl _ w3).grown hgrow (Nat.le_refl _) (fun k e => by cases e)⟩
  clear hown hgrow
  obtain ⟨ga, hga⟩ : ∃ X, X = w3.heap.size := ⟨_, rfl⟩
  rw [← hga]
  have HP4 : Hid (Pg w3 ga n L 0 [] w4) := by rw [hga]; exact HP0.out
  clear hga HP0
  go_wp2_with fail
  go_loopw [10, 11] (fun v10 v11 W => ∃ s cnt : Nat, s ≤ rs.length ∧ v11 = .int .i64 (s : Int) ∧ v10 = .int .i64 (cnt : Int) ∧ Hid (cnt = (sts.take s).flatten.length ∧ Pg w3 ga n L s [] W)) (fun _ v11 _ => rs.length - (intOf v11).toNat)
  case atStart => exact ⟨0, 0, Nat.zero_le _, rfl, rfl, by simp, HP4.out⟩
  case round =>
    obtain ⟨s, cnt, hs, rfl, rfl, HS1⟩ := hrel
    clear HP4
    by_cases hlt : s < rs.length
    · have t1 : (s : Int) < (rs.length : Int) := by omega
      have hss : s < sts.length := by have := HRL.out; omega
      have hm0 : 0 < sts[s].length := List.length_pos_iff.2 (HST.out.2 s hss).2
      obtain ⟨g3, c3', e3, -⟩ := own_form HSS.out.1 (by omega)
      simp only [Value.slice.injEq] at e3
      obtain ⟨rfl, -, rfl⟩ := e3
      have hrow := HSS.out.2.2.1 s hlt hss
      obtain ⟨gx, cx, hrv, hcx1, hcx2⟩ := own_form hrow (by rw [up_len]; exact hm0)
      rw [up_len] at hrv hcx1
      have e1 := HSS.out.1.cellAt s (by omega)
      rw [List.getElem?_eq_getElem hlt, hrv] at e1
      obtain ⟨m, hm⟩ : ∃ m, m = sts[s].length := ⟨_, rfl⟩
      have HCS : Hid (∀ W, Below w3.heap.size w3 W → W.cell? ⟨g3, s, none⟩ = some (.slice (some ⟨gx, 0, none⟩) m cx) ∧ ∀ i (h : i < sts[s].length), W.cell? ⟨gx, i, none⟩ = some (.int .i64 (sts[s][i] : Int))) := fun W hW => by
        rw [hm]
        refine ⟨(World.cell?_of_block (hW.block g3 (World.block_lt_of_cell? w3 _ e1))).trans e1, fun i h => ?_⟩
        rw [hrv] at hrow
        have := Rw.cells (own_later hrow hW) i (by rw [up_len]; exact h)
        simpa [up] using this
      rw [← hm] at hcx1
      have HM := hide hm
      have HM0 : Hid (0 < m) := by unfold Hid; omega
      have HMB : Hid (m ≤ 200) := by
        have := HST.out.short hss
        have := HNB.out
        unfold Hid
        omega
      have HSB : Hid (s ≤ 200) := by
        have := HST.out.few
        have := HNB.out
        unfold Hid
        omega
      have Q0 : Hid (cnt = cnt + 0 ∧ Pg w3 ga n L s (sts[s].take 0) wr) := ⟨rfl, HS1.out.2⟩
      have HCB : Hid (cnt ≤ 200) := by
        have h1 := HS1.out.1
        have h2 := HST.out.flat_len
        have h4 : (sts.take s).flatten.length ≤ sts.flatten.length := by
          conv => rhs; rw [← List.take_append_drop s sts, List.flatten_append, List.length_append]
          omega
        have := HNB.out
        unfold Hid
        omega
      have HCF : Hid (cnt + m = (sts.take (s + 1)).flatten.length) := by
        unfold Hid
        rw [List.take_succ_eq_append_getElem hss, List.flatten_append, List.length_append, List.flatten_cons, List.flatten_nil, List.append_nil, HS1.out.1, hm]
      clear hrow hrv e1 hm hm0 HS1
      go_wp2_with fail
      go_loopw [10, 12] (fun v10 v12 W => ∃ i c : Nat, i ≤ m ∧ v12 = .int .i64 (i : Int) ∧ v10 = .int .i64 (c : Int) ∧ Hid (c = cnt + i ∧ Pg w3 ga n L s (sts[s].take i) W)) (fun _ v12 _ => m - (intOf v12).toNat)
      case atStart => exact ⟨0, cnt, Nat.zero_le _, rfl, rfl, Q0.out⟩
      case round =>
        obtain ⟨i, c, him, rfl, rfl, HI⟩ := hrel
        clear Q0
        obtain ⟨ec, -⟩ := HCS.out wr HI.out.2.below
        by_cases hin : i < m
        · have t2 : (i : Int) < (m : Int) := by omega
          have hism : i < sts[s].length := by have := HM.out; omega
          obtain ⟨hxn, hxs⟩ := stage_of HST.out s hss i hism
          obtain ⟨x, hxe⟩ : ∃ x, x = sts[s][i] := ⟨_, rfl⟩
          rw [← hxe] at hxn hxs
          have HXS := hide hxs
          have ei := (HCS.out wr HI.out.2.below).2 i hism
          rw [← hxe] at ei
          have HPG := hide HI.out.2
          have HCC := hide HI.out.1
          obtain ⟨⟨z0, ex⟩, efz⟩ := HPG.out.cell x hxn
          have t3 : ¬ (x : Int) < 0 := by omega
          have t4 : ¬ (x : Int) ≥ (n : Int) := by omega
          have t5 : (x : Int) < (n : Int) := by omega
          have tc : c ≤ 9223372036854775800 := by
            have := HCC.out
            have := HCB.out
            have := HMB.out
            omega
          clear HI hxs
          by_cases hi0' : 0 < i
          · have t6 : (i : Int) > 0 := by omega
            obtain ⟨i1, hi1⟩ : ∃ q, q = i - 1 := ⟨_, rfl⟩
            have t7 : IntKind.i64.wrap ((i : Int) - 1) = (i1 : Int) := by
              have := HMB.out
              rw [IntKind.wrap_i64]
              omega
            have t8 : (i1 : Int) < (m : Int) := by omega
            have hi1s : i1 < sts[s].length := by omega
            have ei1 := (HCS.out wr HPG.out.below).2 i1 hi1s
            have hrise := stage_rise HST.out s hss i hism i1 (by omega)
            rw [← hxe] at hrise
            obtain ⟨y, hye⟩ : ∃ y, y = sts[s][i1] := ⟨_, rfl⟩
            rw [← hye] at ei1 hrise
            have t9' : ¬ (y : Int) ≥ (x : Int) := by omega
            clear hrise hye hi1
            have HPP : Hid (Pg w3 ga n L s (sts[s].take (i + 1)) (wr.setCell ⟨ga, x, none⟩ (.int .i64 (s : Int)))) := by
              unfold Hid
              rw [List.take_succ_eq_append_getElem hism, ← hxe]
              exact HPG.out.put x HXS.out
            clear hxe
            go_wp2_with fail
            obtain ⟨V, hV⟩ : ∃ X, X = wr.setCell ⟨ga, x, none⟩ (.int .i64 (s : Int)) := ⟨_, rfl⟩
            rw [← hV] at HPP ⊢
            clear hV ex efz HPG
            go_loopw [14, 15] (fun v14 v15 W => ∃ (k : Nat) (r : Bool), k ≤ x ∧ v15 = .int .i64 (k : Int) ∧ v14 = .bool r ∧ Hid ((r = true ↔ s = 0 ∨ ∃ j, j < k ∧ cn L j x = true ∧ sg L j + 1 = s) ∧ Pg w3 ga n L s (sts[s].take (i + 1)) W)) (fun _ v15 _ => x - (intOf v15).toNat)
            case atStart => exact ⟨0, _, Nat.zero_le _, rfl, rfl, by simp, HPP.out⟩
            case round =>
              obtain ⟨k, r, hk, rfl, rfl, HK⟩ := hrel
              clear HPP
              by_cases hkx : k < x
              · have t9 : (k : Int) < (x : Int) := by omega
                have JC : Hid (Calls Try.prog 15 #[.pointer (some ⟨g, 0, none⟩), .int .i64 (k : Int), .int .i64 (x : Int)] wr fun e w' => e = .returned (.bool (cn L k x)) ∧ Below wr.heap.size wr w') := by
                  have := conflict_any (HPL.out wr HK.out.2.below) (k : Int) (x : Int)
                  rw [cz_nat L k x (by have := HNL.out; omega) (by have := HNL.out; omega) (by omega)] at this
                  exact this
                have hkn : k < n := by omega
                have hkb : k ≤ 9223372036854775800 := by
                  have := HNB.out
                  omega
                have tkn : (k : Int) < (n : Int) := by omega
                have HLT : Hid (cn L k x = true → sg L k < s) := fun hc => by
                  have := sg_lt L k x hkx (by have := HNL.out; omega) hc
                  have := HXS.out
                  omega
                have HSTEP : Hid ((∃ j, j < k + 1 ∧ cn L j x = true ∧ sg L j + 1 = s) ↔ (∃ j, j < k ∧ cn L j x = true ∧ sg L j + 1 = s) ∨ (cn L k x = true ∧ sg L k + 1 = s)) := by
                  constructor
                  · rintro ⟨j, j1, j2, j3⟩
                    by_cases e : j = k
                    · subst e
                      exact .inr ⟨j2, j3⟩
                    · exact .inl ⟨j, by omega, j2, j3⟩
                  · rintro (⟨j, j1, j2, j3⟩ | ⟨j2, j3⟩)
                    · exact ⟨j, by omega, j2, j3⟩
                    · exact ⟨k, by omega, j2, j3⟩
                cases hc : cn L k x with
                | true =>
                  rw [hc] at JC
                  have hsg := HLT.out hc
                  go_wp2_with fail
                  refine JC.out.mono ?_
                  rintro e w6 ⟨rfl, b6⟩
                  have HP6 : Hid (Pg w3 ga n L s (sts[s].take (i + 1)) w6) := HK.out.2.later b6
                  have e5 := HP6.out.at k hkn (.inl hsg)
                  obtain ⟨q, hq⟩ : ∃ q, q = sg L k := ⟨_, rfl⟩
                  rw [← hq] at e5 hsg
                  have t10 : ¬ (q : Int) ≥ (s : Int) := by omega
                  obtain ⟨s1, hs1⟩ : ∃ q, q = s - 1 := ⟨_, rfl⟩
                  have t11 : IntKind.i64.wrap ((s : Int) - 1) = (s1 : Int) := by
                    have := HSB.out
                    rw [IntKind.wrap_i64]
                    omega
                  have HSE := hide hs1
                  clear hs1
                  cases r with
                  | true =>
                    have HNp := hide HP6.out
                    have HNa : Hid (s = 0 ∨ ∃ j, j < k + 1 ∧ cn L j x = true ∧ sg L j + 1 = s) := by
                      unfold Hid
                      rw [HSTEP.out]
                      rcases HK.out.1.1 rfl with h | h
                      · exact .inl h
                      · exact .inr (.inl h)
                    clear HK JC HLT HSTEP hc hq b6
                    go_wp2_with fail
                    go_roundw
                    case rel => exact ⟨k + 1, true, by omega, rfl, rfl, ⟨fun _ => HNa.out, fun _ => rfl⟩, HNp.out⟩
                    case measure => simp only [intOf]; omega
                  | false =>
                    have HF : Hid (¬ (s = 0 ∨ ∃ j, j < k ∧ cn L j x = true ∧ sg L j + 1 = s)) := fun h => by
                      have := HK.out.1.2 h
                      cases this
                    by_cases hqs : (q : Int) = (s1 : Int)
                    · have HNp := hide HP6.out
                      have HNa : Hid (s = 0 ∨ ∃ j, j < k + 1 ∧ cn L j x = true ∧ sg L j + 1 = s) := by
                        unfold Hid
                        rw [HSTEP.out]
                        have := HSE.out
                        exact .inr (.inr ⟨hc, by omega⟩)
                      clear HK JC HLT HSTEP hc hq b6 HF
                      go_wp2_with fail
                      go_roundw
                      case rel => exact ⟨k + 1, true, by omega, rfl, rfl, ⟨fun _ => HNa.out, fun _ => rfl⟩, HNp.out⟩
                      case measure => simp only [intOf]; omega
                    · have HNp := hide HP6.out
                      have t12 : ((q : Int) == (s1 : Int)) = false := beq_eq_false_iff_ne.2 hqs
                      have HNa : Hid (¬ (s = 0 ∨ ∃ j, j < k + 1 ∧ cn L j x = true ∧ sg L j + 1 = s)) := fun h => by
                        rw [HSTEP.out] at h
                        have := HSE.out
                        rcases h with h | h | h
                        · exact HF.out (.inl h)
                        · exact HF.out (.inr h)
                        · have := h.2
                          omega
                      clear HK JC HLT HSTEP hc hq b6 HF
                      go_wp2_with fail
                      go_roundw
                      case rel => exact ⟨k + 1, false, by omega, rfl, rfl, ⟨fun h => (by cases h), fun h => absurd h HNa.out⟩, HNp.out⟩
                      case measure => simp only [intOf]; omega
                | false =>
                  rw [hc] at JC
                  go_wp2_with fail
                  refine JC.out.mono ?_
                  rintro e w6 ⟨rfl, b6⟩
                  have HNp : Hid (Pg w3 ga n L s (sts[s].take (i + 1)) w6) := HK.out.2.later b6
                  have HNi : Hid (r = true ↔ s = 0 ∨ ∃ j, j < k + 1 ∧ cn L j x = true ∧ sg L j + 1 = s) := by
                    unfold Hid
                    rw [HK.out.1, HSTEP.out, hc]
                    simp
                  clear HK JC HLT HSTEP hc b6
                  cases r with
                  | true =>
                    have HNa : Hid (s = 0 ∨ ∃ j, j < k + 1 ∧ cn L j x = true ∧ sg L j + 1 = s) := HNi.out.1 rfl
                    clear HNi
                    go_wp2_with fail
                    go_roundw
                    case rel => exact ⟨k + 1, true, by omega, rfl, rfl, ⟨fun _ => HNa.out, fun _ => rfl⟩, HNp.out⟩
                    case measure => simp only [intOf]; omega
                  | false =>
                    have HNa : Hid (¬ (s = 0 ∨ ∃ j, j < k + 1 ∧ cn L j x = true ∧ sg L j + 1 = s)) := fun h => by
                      have := HNi.out.2 h
                      cases this
                    clear HNi
                    go_wp2_with fail
                    go_roundw
                    case rel => exact ⟨k + 1, false, by omega, rfl, rfl, ⟨fun h => (by cases h), fun h => absurd h HNa.out⟩, HNp.out⟩
                    case measure => simp only [intOf]; omega
              · have t9 : ¬ (k : Int) < (x : Int) := by omega
                obtain rfl : k = x := by omega
                obtain rfl : r = true := by
                  rw [HK.out.1]
                  rcases sg_why L k (by have := HNL.out; omega) with h | ⟨j, j1, j2, j3⟩
                  · exact .inl (by have := HXS.out; omega)
                  · exact .inr ⟨j, j1, j2, by have := HXS.out; omega⟩
                go_wp2_with fail
                go_roundw
                case rel => exact ⟨i + 1, c + 1, by omega, rfl, rfl, by rw [HCC.out]; omega, HK.out.2⟩
                case measure => simp only [intOf]; omega
          · have t6 : ¬ (i : Int) > 0 := by omega
            have HPP : Hid (Pg w3 ga n L s (sts[s].take (i + 1)) (wr.setCell ⟨ga, x, none⟩ (.int .i64 (s : Int)))) := by
              unfold Hid
              rw [List.take_succ_eq_append_getElem hism, ← hxe]
              exact HPG.out.put x HXS.out
            clear hxe
            go_wp2_with fail
            obtain ⟨V, hV⟩ : ∃ X, X = wr.setCell ⟨ga, x, none⟩ (.int .i64 (s : Int)) := ⟨_, rfl⟩
            rw [← hV] at HPP ⊢
            clear hV ex efz HPG
            go_loopw [14, 15] (fun v14 v15 W => ∃ (k : Nat) (r : Bool), k ≤ x ∧ v15 = .int .i64 (k : Int) ∧ v14 = .bool r ∧ Hid ((r = true ↔ s = 0 ∨ ∃ j, j < k ∧ cn L j x = true ∧ sg L j + 1 = s) ∧ Pg w3 ga n L s (sts[s].take (i + 1)) W)) (fun _ v15 _ => x - (intOf v15).toNat)
            case atStart => exact ⟨0, _, Nat.zero_le _, rfl, rfl, by simp, HPP.out⟩
            case round =>
              obtain ⟨k, r, hk, rfl, rfl, HK⟩ := hrel
              clear HPP
              by_cases hkx : k < x
              · have t9 : (k : Int) < (x : Int) := by omega
                have JC : Hid (Calls Try.prog 15 #[.pointer (some ⟨g, 0, none⟩), .int .i64 (k : Int), .int .i64 (x : Int)] wr fun e w' => e = .returned (.bool (cn L k x)) ∧ Below wr.heap.size wr w') := by
                  have := conflict_any (HPL.out wr HK.out.2.below) (k : Int) (x : Int)
                  rw [cz_nat L k x (by have := HNL.out; omega) (by have := HNL.out; omega) (by omega)] at this
                  exact this
                have hkn : k < n := by omega
                have hkb : k ≤ 9223372036854775800 := by
                  have := HNB.out
                  omega
                have tkn : (k : Int) < (n : Int) := by omega
                have HLT : Hid (cn L k x = true → sg L k < s) := fun hc => by
                  have := sg_lt L k x hkx (by have := HNL.out; omega) hc
                  have := HXS.out
                  omega
                have HSTEP : Hid ((∃ j, j < k + 1 ∧ cn L j x = true ∧ sg L j + 1 = s) ↔ (∃ j, j < k ∧ cn L j x = true ∧ sg L j + 1 = s) ∨ (cn L k x = true ∧ sg L k + 1 = s)) := by
                  constructor
                  · rintro ⟨j, j1, j2, j3⟩
                    by_cases e : j = k
                    · subst e
                      exact .inr ⟨j2, j3⟩
                    · exact .inl ⟨j, by omega, j2, j3⟩
                  · rintro (⟨j, j1, j2, j3⟩ | ⟨j2, j3⟩)
                    · exact ⟨j, by omega, j2, j3⟩
                    · exact ⟨k, by omega, j2, j3⟩
                cases hc : cn L k x with
                | true =>
                  rw [hc] at JC
                  have hsg := HLT.out hc
                  go_wp2_with fail
                  refine JC.out.mono ?_
                  rintro e w6 ⟨rfl, b6⟩
                  have HP6 : Hid (Pg w3 ga n L s (sts[s].take (i + 1)) w6) := HK.out.2.later b6
                  have e5 := HP6.out.at k hkn (.inl hsg)
                  obtain ⟨q, hq⟩ : ∃ q, q = sg L k := ⟨_, rfl⟩
                  rw [← hq] at e5 hsg
                  have t10 : ¬ (q : Int) ≥ (s : Int) := by omega
                  obtain ⟨s1, hs1⟩ : ∃ q, q = s - 1 := ⟨_, rfl⟩
                  have t11 : IntKind.i64.wrap ((s : Int) - 1) = (s1 : Int) := by
                    have := HSB.out
                    rw [IntKind.wrap_i64]
                    omega
                  have HSE := hide hs1
                  clear hs1
                  cases r with
                  | true =>
                    have HNp := hide HP6.out
                    have HNa : Hid (s = 0 ∨ ∃ j, j < k + 1 ∧ cn L j x = true ∧ sg L j + 1 = s) := by
                      unfold Hid
                      rw [HSTEP.out]
                      rcases HK.out.1.1 rfl with h | h
                      · exact .inl h
                      · exact .inr (.inl h)
                    clear HK JC HLT HSTEP hc hq b6
                    go_wp2_with fail
                    go_roundw
                    case rel => exact ⟨k + 1, true, by omega, rfl, rfl, ⟨fun _ => HNa.out, fun _ => rfl⟩, HNp.out⟩
                    case measure => simp only [intOf]; omega
                  | false =>
                    have HF : Hid (¬ (s = 0 ∨ ∃ j, j < k ∧ cn L j x = true ∧ sg L j + 1 = s)) := fun h => by
                      have := HK.out.1.2 h
                      cases this
                    by_cases hqs : (q : Int) = (s1 : Int)
                    · have HNp := hide HP6.out
                      have HNa : Hid (s = 0 ∨ ∃ j, j < k + 1 ∧ cn L j x = true ∧ sg L j + 1 = s) := by
                        unfold Hid
                        rw [HSTEP.out]
                        have := HSE.out
                        exact .inr (.inr ⟨hc, by omega⟩)
                      clear HK JC HLT HSTEP hc hq b6 HF
                      go_wp2_with fail
                      go_roundw
                      case rel => exact ⟨k + 1, true, by omega, rfl, rfl, ⟨fun _ => HNa.out, fun _ => rfl⟩, HNp.out⟩
                      case measure => simp only [intOf]; omega
                    · have HNp := hide HP6.out
                      have t12 : ((q : Int) == (s1 : Int)) = false := beq_eq_false_iff_ne.2 hqs
                      have HNa : Hid (¬ (s = 0 ∨ ∃ j, j < k + 1 ∧ cn L j x = true ∧ sg L j + 1 = s)) := fun h => by
                        rw [HSTEP.out] at h
                        have := HSE.out
                        rcases h with h | h | h
                        · exact HF.out (.inl h)
                        · exact HF.out (.inr h)
                        · have := h.2
                          omega
                      clear HK JC HLT HSTEP hc hq b6 HF
                      go_wp2_with fail
                      go_roundw
                      case rel => exact ⟨k + 1, false, by omega, rfl, rfl, ⟨fun h => (by cases h), fun h => absurd h HNa.out⟩, HNp.out⟩
                      case measure => simp only [intOf]; omega
                | false =>
                  rw [hc] at JC
                  go_wp2_with fail
                  refine JC.out.mono ?_
                  rintro e w6 ⟨rfl, b6⟩
                  have HNp : Hid (Pg w3 ga n L s (sts[s].take (i + 1)) w6) := HK.out.2.later b6
                  have HNi : Hid (r = true ↔ s = 0 ∨ ∃ j, j < k + 1 ∧ cn L j x = true ∧ sg L j + 1 = s) := by
                    unfold Hid
                    rw [HK.out.1, HSTEP.out, hc]
                    simp
                  clear HK JC HLT HSTEP hc b6
                  cases r with
                  | true =>
                    have HNa : Hid (s = 0 ∨ ∃ j, j < k + 1 ∧ cn L j x = true ∧ sg L j + 1 = s) := HNi.out.1 rfl
                    clear HNi
                    go_wp2_with fail
                    go_roundw
                    case rel => exact ⟨k + 1, true, by omega, rfl, rfl, ⟨fun _ => HNa.out, fun _ => rfl⟩, HNp.out⟩
                    case measure => simp only [intOf]; omega
                  | false =>
                    have HNa : Hid (¬ (s = 0 ∨ ∃ j, j < k + 1 ∧ cn L j x = true ∧ sg L j + 1 = s)) := fun h => by
                      have := HNi.out.2 h
                      cases this
                    clear HNi
                    go_wp2_with fail
                    go_roundw
                    case rel => exact ⟨k + 1, false, by omega, rfl, rfl, ⟨fun h => (by cases h), fun h => absurd h HNa.out⟩, HNp.out⟩
                    case measure => simp only [intOf]; omega
              · have t9 : ¬ (k : Int) < (x : Int) := by omega
                obtain rfl : k = x := by omega
                obtain rfl : r = true := by
                  rw [HK.out.1]
                  rcases sg_why L k (by have := HNL.out; omega) with h | ⟨j, j1, j2, j3⟩
                  · exact .inl (by have := HXS.out; omega)
                  · exact .inr ⟨j, j1, j2, by have := HXS.out; omega⟩
                go_wp2_with fail
                go_roundw
                case rel => exact ⟨i + 1, c + 1, by omega, rfl, rfl, by rw [HCC.out]; omega, HK.out.2⟩
                case measure => simp only [intOf]; omega
        · have t2 : ¬ (i : Int) < (m : Int) := by omega
          obtain rfl : i = m := by omega
          have HNX : Hid (c = (sts.take (s + 1)).flatten.length ∧ Pg w3 ga n L (s + 1) [] wr) := by
            obtain ⟨h1, h2⟩ := HI.out
            refine ⟨by rw [h1, HCF.out], ?_⟩
            refine h2.next HST.out hss ?_
            rw [HM.out, List.take_length]
          clear HI
          go_wp2_with fail
          go_roundw
          case rel => exact ⟨s + 1, c, by omega, rfl, rfl, HNX.out⟩
          case measure => simp only [intOf]; omega
    · have t1 : ¬ (s : Int) < (rs.length : Int) := by omega
      obtain rfl : s = rs.length := by omega
      obtain ⟨hcn, hPg⟩ := HS1.out
      rw [HRL.out, List.take_length, HST.out.flat_len] at hcn
      subst hcn
      have HB4 : Hid (Below w3.heap.size w3 wr) := hPg.below
      clear hPg HS1
      go_wp2_with fail
      refine (picked_any (HPL.out _ HB4.out) (HR.out.later (below_on HB3.out HB4.out)) HRI.out).mono ?_
      rintro e wa ⟨vp, sts', ps, rfl, hst, hps, hok, hpl, ba⟩
      have HA : Hid (StOf L L.length sts' ∧ Rl wa vp ps ∧ okPs sts' ps ∧ ps.length = L.length) := ⟨hst, Rl.of hps, hok, hpl⟩
      have BA : Hid (Below w3.heap.size w3 wa) := below_on HB4.out ba
      obtain ⟨ap, cp, rfl⟩ := own_len hps
      obtain ⟨hcp1, hcp2⟩ := own_cap hps
      clear hst hps hok hpl ba HB4
      go_wp2_with fail
      refine (order_full (HPL.out _ BA.out) HA.out.1 HA.out.2.1 HA.out.2.2.1 HA.out.2.2.2).mono ?_
      rintro e w5 ⟨v5, o, rfl, ho, hLg, b5⟩
      have HB5 : Hid (Below w3.heap.size w3 w5) := below_on BA.out b5
      have hol : o.length = cnt := by rw [hLg.1, HNL.out]
      have HOL := hide hol
      have HRO := hide (Rl.of ho)
      obtain ⟨a5, c5, rfl⟩ := own_len ho
      obtain ⟨hc51, hc52⟩ := own_cap ho
      rw [hol] at hc51 HRO ⊢
      have HLG := hide hLg
      clear ho hLg b5 HA BA hol
      go_wp2_with (at_make; refine wpList_make_full _ rfl _ _ 47 rfl w5.heap.size 4 j0 (.bool false) 1 Try.underlying47 hj0 hy0 hy1 .i64 .i64 _ _ cnt rfl rfl ?d1 ?d2 ?d3 ?d4 ?d5 ?_)
      case d1 => rfl
      case d2 => rfl
      case d3 => have := HNB.out; rw [hy2]; omega
      case d4 => have := HNB.out; unfold maxLen; omega
      case d5 => omega
      intro w7 hown7 hgrow7
      rw [toList_madeCells_one] at hown7
      have HB7 : Hid (Pb w5 w5.heap.size cnt o 0 w7) := ⟨List.replicate cnt false, by simp, fun j hj => by simp, by simpa [bc] using hown7, (Below.refl _ w5).grown hgrow7 (Nat.le_refl _) (fun k e => by cases e)⟩
      clear hown7 hgrow7
      obtain ⟨gb, hgb⟩ : ∃ X, X = w5.heap.size := ⟨_, rfl⟩
      rw [← hgb]
      have HP7 : Hid (Pb w5 gb cnt o 0 w7) := by rw [hgb]; exact HB7.out
      clear hgb HB7
      go_wp2_with fail
      go_loopw [20] (fun v20 W => ∃ i : Nat, i ≤ cnt ∧ v20 = .int .i64 (i : Int) ∧ Hid (Pb w5 gb cnt o i W)) (fun v20 _ => cnt - (intOf v20).toNat)
      case atStart => exact ⟨0, Nat.zero_le _, rfl, HP7.out⟩
      case round =>
        obtain ⟨i, hi, rfl, HI⟩ := hrel
        clear HP7
        by_cases hin : i < cnt
        · have t1 : (i : Int) < (cnt : Int) := by omega
          have hio : i < o.length := by have := HOL.out; omega
          obtain ⟨a5', c5', e5, -, -, hoc⟩ := HRO.out
          simp only [Value.slice.injEq] at e5
          obtain ⟨rfl, -, rfl⟩ := e5
          obtain ⟨g5, o5, rfl, hcell⟩ := hoc (by omega)
          have hmem := HLG.out.2.1 o[i] (List.getElem_mem hio)
          have hfr := HLG.out.fresh i hio
          obtain ⟨y, hy⟩ : ∃ y : Nat, o[i] = (y : Int) := ⟨o[i].toNat, by omega⟩
          have HYE := hide hy
          rw [hy] at hmem hfr
          have hyn : y < cnt := by have := HNL.out; omega
          have ty : (y : Int) < (cnt : Int) := by omega
          have ty2 : ¬ (y : Int) ≥ (cnt : Int) := by omega
          have ty3 : ¬ (y : Int) < 0 := by omega
          have HOC : Hid (∀ W, Below w5.heap.size w5 W → W.cell? ⟨g5, o5 + i, none⟩ = some (.int .i64 (y : Int)) ∧ ∀ k (h : k < o.length), W.cell? ⟨g5, o5 + k, none⟩ = some (.int .i64 o[k])) := fun W hW => by
            have hh : ∀ k (h : k < o.length), W.cell? ⟨g5, o5 + k, none⟩ = some (.int .i64 o[k]) := fun k h => (World.cell?_of_block (hW.block g5 (World.block_lt_of_cell? w5 _ (hcell k h)))).trans (hcell k h)
            refine ⟨?_, hh⟩
            rw [← hy]
            exact hh i hio
          obtain ⟨f1, f2⟩ := HI.out.no y hyn hfr
          have f3 := (HOC.out wr HI.out.below).1
          have HPP : Hid (Pb w5 gb cnt o (i + 1) (wr.setCell ⟨gb, y, none⟩ (.bool true))) := HI.out.put y hio hy
          clear hoc hcell hmem hfr hy
          go_wp2_with fail
          obtain ⟨V, hV⟩ : ∃ X, X = wr.setCell ⟨gb, y, none⟩ (.bool true) := ⟨_, rfl⟩
          rw [← hV] at HPP ⊢
          clear hV f1 f2 f3 HI
          go_loopw [21] (fun v21 W => ∃ k : Nat, k ≤ i ∧ v21 = .int .i64 (k : Int) ∧ Hid (Pb w5 gb cnt o (i + 1) W)) (fun v21 _ => i - (intOf v21).toNat)
          case atStart => exact ⟨0, Nat.zero_le _, rfl, HPP.out⟩
          case round =>
            obtain ⟨k, hk, rfl, HK⟩ := hrel
            clear HPP
            by_cases hki : k < i
            · have t2 : (k : Int) < (i : Int) := by omega
              have hko : k < o.length := by omega
              have tk : (k : Int) < (cnt : Int) := by omega
              have hpair := HLG.out.pair k i hio hki
              rw [HYE.out] at hpair
              obtain ⟨z, hz⟩ : ∃ z, z = o[k] := ⟨_, rfl⟩
              have HC : Hid (∀ W, Below w5.heap.size w5 W → W.cell? ⟨g5, o5 + k, none⟩ = some (.int .i64 z) ∧ W.cell? ⟨g5, o5 + i, none⟩ = some (.int .i64 (y : Int))) := fun W hW => ⟨by rw [hz]; exact (HOC.out W hW).2 k hko, (HOC.out W hW).1⟩
              rw [← hz] at hpair
              have JC : Hid (∀ W, Below w5.heap.size w5 W → Calls Try.prog 15 #[.pointer (some ⟨g, 0, none⟩), .int .i64 z, .int .i64 (y : Int)] W fun e w' => e = .returned (.bool (cz L z (y : Int))) ∧ Below W.heap.size W w') := fun W hW => conflict_any (HPL.out _ (below_on HB5.out hW)) z (y : Int)
              obtain ⟨c, hcd⟩ : ∃ c, c = cz L z (y : Int) := ⟨_, rfl⟩
              rw [← hcd] at hpair JC
              have SS : Hid (wr.cell? ⟨g5, o5 + k, none⟩ = some (.int .i64 z) ∧ wr.cell? ⟨g5, o5 + i, none⟩ = some (.int .i64 (y : Int))) := HC.out wr HK.out.below
              have HPR := hide hpair
              obtain ⟨f1, f2⟩ := SS.out
              clear hz hcd hpair
              go_wp2_with fail
              have hs3 := SS.out
              go_region_held3 (fun X => X.cell? ⟨g5, o5 + k, none⟩ = some (.int .i64 z) ∧ X.cell? ⟨g5, o5 + i, none⟩ = some (.int .i64 (y : Int))) (first | exact SS.out | exact S6) ((go_at_call 15; refine (JC.out _ (below_on HK.out.below (below_drew wr))).mono ?_; rintro e w6 ⟨rfl, b6⟩; have B6 := hide (below_on (below_drew wr) b6); have S6 := HC.out w6 (below_on HK.out.below B6.out); clear b6))
              obtain ⟨f3, f4⟩ := S6
              clear f1 f2 hs3
              cases c with
              | true =>
                have t3 : z < (y : Int) := HPR.out rfl
                have t4 : ¬ z > (y : Int) := by omega
                have t5 : decide (z > (y : Int)) = false := decide_eq_false t4
                have t6 : decide ((y : Int) < z) = false := decide_eq_false t4
                go_wp2_with fail
                go_quiet (fail)
                go_wp2_with fail
                exact ⟨⟨k + 1, by omega, rfl, HK.out.later (below_on B6.out (below_drawn w6 _))⟩, by simp only [intOf]; omega⟩
              | false =>
                go_wp2_with fail
                go_quiet (fail)
                go_wp2_with fail
                exact ⟨⟨k + 1, by omega, rfl, HK.out.later (below_on B6.out (below_drawn w6 _))⟩, by simp only [intOf]; omega⟩
            · have t2 : ¬ (k : Int) < (i : Int) := by omega
              go_wp2_with fail
              go_roundw
              case rel => exact ⟨i + 1, by omega, rfl, HK.out⟩
              case measure => simp only [intOf]; omega
        · have t1 : ¬ (i : Int) < (cnt : Int) := by omega
          go_wp2_with fail
          refine (legal_any (HPL.out _ (below_on HB5.out HI.out.below)) (HRO.out.later HI.out.below)).mono ?_
          rintro e w10 ⟨bb, rfl, hbb, b10⟩
          obtain rfl : bb = true := hbb.2 HLG.out
          clear hbb
          have B10 := hide b10
          clear b10
          go_wp2_with fail
          go_ret
          exact ⟨rfl, below_on HB3.out (below_on HB5.out (below_on HI.out.below B10.out))⟩
end Go.Proofs.Ythgjdmomcpcolaa
