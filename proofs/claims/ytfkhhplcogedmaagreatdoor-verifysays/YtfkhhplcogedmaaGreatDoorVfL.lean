/-
  Verify: reached.
-/
import Derived.Test.YtfkhhplcogedmaaGreatDoorMgF
import Derived.Test.YtfkhhplcogedmaaGreatDoorMgD
import Derived.Test.YtfkhhplcogedmaaGreatDoorShelf
import Derived.Deep.AppendLies
namespace Go.Proofs.YtfkhhplcogedmaaGreatDoor
open Go.RowKit
set_option maxRecDepth 100000
theorem infoMo : (Tryz.prog.info? 147).map (fun i => (i.zero, i.size, i.bytes)) = some (some (.agg #[.int .i64 0, .int .i64 0]), 2, 16) := by kernel_rfl
/-- Moments, as cells. -/
def mz : List (Nat × Nat) → List Value
  | [] => []
  | m :: t => .int .i64 (m.1 : Int) :: .int .i64 (m.2 : Int) :: mz t
theorem mz_len : ∀ l : List (Nat × Nat), (mz l).length = l.length * 2
  | [] => rfl
  | m :: t => by simp [mz, mz_len t]; omega
theorem mz_append : ∀ a b : List (Nat × Nat), mz (a ++ b) = mz a ++ mz b
  | [], _ => rfl
  | h :: t, b => by simp [mz, mz_append t b]
theorem own_prefix {w : World} {B e s g n n2 c : Nat} {ys : List Value} (h : w.ownsRow B e s (.slice (some ⟨g, 0, none⟩) n2 c) n2 ys) (hn : n ≤ n2) : w.ownsRow B e s (.slice (some ⟨g, 0, none⟩) n c) n (ys.take (n * s)) := by
  have hlen := h.1
  have hle : n * s ≤ n2 * s := Nat.mul_le_mul_right _ hn
  rcases h.2 with ⟨h', _⟩ | ⟨gv', c', cur, h', hb, hg, h1, h2, h3, h4⟩
  · simp at h'
  · simp only [Value.slice.injEq, Option.some.injEq, Addr.mk.injEq, and_true, true_and] at h'
    obtain ⟨rfl, rfl⟩ := h'
    refine ⟨by rw [List.length_take]; omega, .inr ⟨g, c, cur, rfl, hb, hg, by omega, h2, h3, ?_⟩⟩
    rw [← h4, List.take_take]
    congr 1
    omega
/-- What the walk of reached holds. -/
structure Rx (w : World) (B gw gm : Nat) (vc vf : Value) (fs : List Rt) (c : List Ins) (kn : Nat → List Nat) (op : List (Nat × Nat)) (v4 : Value) (W : World) : Prop where
  rk : Rk fs c kn op
  md : ∃ n, Md W B gm n kn ∧ n + rkM c kn op ≤ 400000
  own : W.ownsRow B 147 2 v4 op.length (mz op)
  below : Below w.heap.size w W
  ways : W.heap[gw]? = some (.cells #[vc, vf] 80 (0, 0))
theorem rkM_start {c : List Ins} (hc : c.length ≤ 2000) : rkM c (fun _ => []) [(0, 0)] ≤ 400000 := by
  have h : ∀ n, sumU n (fun p => (65 - ([] : List Nat).length) * ((onwI c p).length + 1)) ≤ n * 195 := by
    intro n
    induction n with
    | zero => simp [sumU]
    | succ n ih =>
      rw [sumU_succ]
      have h1 : (onwI c n).length ≤ 2 := by
        unfold onwI
        rw [List.length_map]
        exact Nat.le_trans (List.length_filter_le _ _) (nextI_len c n)
      have h2 : (65 - ([] : List Nat).length) * ((onwI c n).length + 1) ≤ 195 := by
        rw [List.length_nil]
        omega
      omega
  have := h c.length
  unfold rkM
  rw [List.length_singleton]
  exact Nat.le_trans (Nat.add_le_add_right this 1) (by omega)
theorem contains_n {W : World} {B : Nat} {v : Value} {l : List Nat} (x : Nat) (h : W.ownsRow B 3 1 v l.length (nz l)) : Calls Tryz.prog 80 #[v, .int .i64 (x : Int)] W fun e w' => e = .returned (.bool (decide (x ∈ l))) ∧ w' = W := by
  by_cases h0 : 0 < l.length
  · obtain ⟨g, c, rfl, h1, h2⟩ := own_form h h0
    refine (Tryz.slices_Contains_int g 0 l.length c (l.map fun y : Nat => (y : Int)) (x : Int) W (by simp) (by omega) (fun j hj => ?_)).mono ?_
    · have hj' : j < l.length := by simpa using hj
      rw [Nat.zero_add, h.cellAt j (by omega), nz_at l j hj', List.getD_eq_getElem?_getD]
      simp [hj']
    · rintro e w' ⟨rfl, rfl⟩
      refine ⟨?_, rfl⟩
      congr 2
      rw [List.take_of_length_le (by simp)]
      apply Bool.eq_iff_iff.2
      rw [List.contains_iff_mem, decide_eq_true_iff, List.mem_map]
      constructor
      · rintro ⟨y, hy, e⟩
        have : y = x := by omega
        exact this ▸ hy
      · intro e
        exact ⟨x, e, rfl⟩
  · have : l = [] := List.eq_nil_of_length_eq_zero (by omega)
    subst this
    obtain ⟨a, c, rfl⟩ := own_len h
    refine (Tryz.slices_Contains_int_empty a c (x : Int) W).mono ?_
    rintro e w' ⟨rfl, rfl⟩
    exact ⟨by simp, rfl⟩
set_option maxHeartbeats 8000000 in
theorem reached_any {Q : Nat → Prop} {w : World} {vc vf : Value} {c : List Ins} {fs : List Rt} (h : Il Q w vc c) (hf : Rts Q w vf fs) (ht : Tb w) (h0 : 0 < c.length) (hc : c.length ≤ 2000) : Calls Tryz.prog 54 #[.agg #[vc, vf]] w fun e w' => ∃ gm n kn, e = .returned (.map (some gm)) ∧ Md w' w.heap.size gm n kn ∧ (∀ p d, d ∈ kn p ↔ Rch fs c p d) ∧ (∀ p, (kn p).Nodup) ∧ w.heap.size ≤ gm ∧ Below w.heap.size w w' := by
  have JB : Hid (∀ W p d, Below w.heap.size w W → p < c.length → d ≤ 64 → Calls Tryz.prog 81 #[.agg #[vc, vf], .agg #[.int .i64 ((p : Nat) : Int), .int .i64 ((d : Nat) : Int)]] W fun e w' => (∃ dv : Int, e = .returned (.tuple #[.int .i64 dv, .bool (behI fs c p d).isSome]) ∧ ∀ d', behI fs c p d = some d' → dv = (d' : Int)) ∧ Below W.heap.size W w') := fun W p d hW hp hd => behind_any (h.later hW) (hf.later hW) (ht.later hW) p d hp hd
  have JO : Hid (∀ W p, Below w.heap.size w W → p < c.length → Calls Tryz.prog 78 #[.agg #[vc, vf], .int .i64 ((p : Nat) : Int)] W fun e w' => ∃ v, e = .returned v ∧ w'.ownsRow W.heap.size 3 1 v (onwI c p).length ((onwI c p).map fun y : Nat => Value.int .i64 (y : Int)) ∧ Below W.heap.size W w') := fun W p hW hp => onward_any (h.later hW) (by obtain ⟨a, cc, e, -⟩ := hf; exact ⟨a, _, cc, e⟩) p hp
  obtain ⟨ao, co, rfl, -, -⟩ := h.at
  obtain ⟨af, cf, rfl, -, -, -⟩ := hf
  have HC0 := hide h0
  have HC2 := hide hc
  obtain ⟨im, him, hzm0, hzm1, hzm2⟩ := info_parts infoMo
  obtain ⟨ii, hii, hzi0, hzi1, hzi2⟩ := info_parts infoI2
  have hmm := @run_makeMap Tryz.prog
  obtain ⟨nc, hnc⟩ : ∃ n, n = c.length := ⟨_, rfl⟩
  obtain ⟨nf, hnf⟩ : ∃ n, n = fs.length := ⟨_, rfl⟩
  have HNC := hide hnc
  rw [← hnc, ← hnf] at JB JO ⊢
  obtain ⟨B, hB⟩ : ∃ B, B = w.heap.size := ⟨_, rfl⟩
  have HB := hide hB
  clear h h0 hc hnc hnf ht
  have RX0 : Hid (Rx w B B (B + 1) (.slice ao nc co) (.slice af nf cf) fs c (fun _ => []) [(0, 0)] (.slice (some ⟨B + 1 + 1, 0, none⟩) 1 1) (((w.alloc (.cells #[.slice ao nc co, .slice af nf cf] 80)).alloc (.map #[] 0)).alloc (.cells #[.int .i64 0, .int .i64 0] 147))) := by
    obtain ⟨w1, hw1⟩ : ∃ X, X = w.alloc (.cells #[.slice ao nc co, .slice af nf cf] 80) := ⟨_, rfl⟩
    have b1 : Below w.heap.size w w1 := hw1 ▸ below_alloc w _
    have s1 : w1.heap.size = B + 1 := by rw [hw1, hB]; simp
    have c1 : w1.heap[B]? = some (.cells #[.slice ao nc co, .slice af nf cf] 80 (0, 0)) := by rw [hw1, hB]; exact heap_alloc_new w _
    rw [← hw1]
    have m1 := Md.made w1 B
    rw [s1] at m1
    have b2 := below_alloc w1 (.map #[] 0)
    obtain ⟨w2, hw2⟩ : ∃ X, X = w1.alloc (.map #[] 0) := ⟨_, rfl⟩
    rw [← hw2] at m1 b2 ⊢
    have s2 : w2.heap.size = B + 1 + 1 := by rw [hw2]; simp [s1]
    have b3 := below_alloc w2 (.cells #[.int .i64 0, .int .i64 0] 147)
    refine ⟨Rk.init, ⟨0, m1.later b3, ?_⟩, ?_, below_on (below_on b1 b2) b3, ?_⟩
    · have := rkM_start HC2.out
      omega
    · have := World.ownsRow_lit (e := 147) (size := 2) (base := B) w2 #[.int .i64 0, .int .i64 0] 1 (by omega) (by unfold maxLen; omega) rfl
      rw [s2] at this
      exact this
    · exact (b3.block B (by omega)).trans ((b2.block B (by omega)).trans c1)
  go_enter Tryz.func54, Tryz.ntmps54
  go_wp2_with fail
  rw [← hB]
  clear hB
  obtain ⟨W0, hW0⟩ : ∃ X, X = ((w.alloc (.cells #[.slice ao nc co, .slice af nf cf] 80)).alloc (.map #[] 0)).alloc (.cells #[.int .i64 0, .int .i64 0] 147) := ⟨_, rfl⟩
  rw [← hW0] at RX0 ⊢
  clear hW0
  go_loopg [4] (rkM c (fun _ => []) [(0, 0)]) (fun q v4 W => ∃ (kn : Nat → List Nat) (op : List (Nat × Nat)), q = rkM c kn op ∧ Hid (Rx w B B (B + 1) (.slice ao nc co) (.slice af nf cf) fs c kn op v4 W))
  case atStart => exact ⟨_, _, rfl, RX0.out⟩
  case round =>
    obtain ⟨kn, op, rfl, HR⟩ := hrel
    clear RX0
    by_cases c0 : op = []
    · subst c0
      have r3 := HR.out.own
      obtain ⟨a4, c4, rfl⟩ := own_len r3
      have HF : Hid (∃ n, Md wr w.heap.size (B + 1) n kn ∧ (∀ p d, d ∈ kn p ↔ Rch fs c p d) ∧ (∀ p, (kn p).Nodup) ∧ w.heap.size ≤ B + 1 ∧ Below w.heap.size w wr) := by
        obtain ⟨n, h1, -⟩ := HR.out.md
        exact ⟨n, HB.out ▸ h1, fun p d => HR.out.rk.done, HR.out.rk.nodup, by have := HB.out; omega, HR.out.below⟩
      clear r3
      go_wp2_with fail
      go_ret
      obtain ⟨n, h1⟩ := HF.out
      exact ⟨_, n, kn, rfl, h1⟩
    · obtain ⟨pre, m0, hop⟩ : ∃ pre x, op = pre ++ [x] := ⟨op.dropLast, op.getLast c0, (List.dropLast_concat_getLast c0).symm⟩
      subst hop
      obtain ⟨p, d⟩ := m0
      have hpd := (HR.out.rk.osound (p, d) (by simp)).lt HC0.out
      have r3 := HR.out.own
      rw [List.length_append, List.length_singleton] at r3
      obtain ⟨m, hm⟩ : ∃ m, m = pre.length := ⟨_, rfl⟩
      rw [← hm] at r3
      obtain ⟨g4, c4, rfl, hc4, hc5⟩ := own_form r3 (by omega)
      have d1 : wr.cell? ⟨g4, m * 2, none⟩ = some (.int .i64 (p : Int)) ∧ wr.cell? ⟨g4, m * 2 + 1, none⟩ = some (.int .i64 (d : Int)) := by
        rw [r3.cellAt _ (by omega), r3.cellAt _ (by omega), mz_append]
        have e := mz_len pre
        rw [List.getElem?_append_right (by omega), List.getElem?_append_right (by omega), e, hm]
        simp [mz]
      obtain ⟨d1, d2⟩ := d1
      have CUT : Hid (wr.ownsRow B 147 2 (.slice (some ⟨g4, 0, none⟩) m c4) m (mz pre)) := by
        have := own_prefix r3 (n := m) (by omega)
        have e : (mz (pre ++ [(p, d)])).take (m * 2) = mz pre := by rw [mz_append, hm, List.take_left' (mz_len pre)]
        rwa [e] at this
      have hm5 : m ≤ 400000 := by
        obtain ⟨n, -, h5⟩ := HR.out.md
        unfold rkM at h5
        simp at h5
        omega
      have t1 : (m : Int) + 1 ≤ 9223372036854775807 := by omega
      have HM := hide hm
      have HP : Hid (p < c.length ∧ d ≤ 64) := hpd
      clear r3 hm c0 hpd
      go_upto_region 6 with fail
      obtain ⟨g5, hg5⟩ : ∃ g, g = wr.heap.size := ⟨_, rfl⟩
      obtain ⟨W1, hW1⟩ : ∃ X, X = wr.alloc (.cells #[.int .i64 (p : Int), .int .i64 (d : Int)] 147) := ⟨_, rfl⟩
      have b1 : Below wr.heap.size wr W1 := hW1 ▸ below_alloc wr _
      have k5 : W1.heap[g5]? = some (.cells #[.int .i64 (p : Int), .int .i64 (d : Int)] 147 (0, 0)) := by rw [hW1, hg5]; exact heap_alloc_new wr _
      have hBg5 : B ≤ g5 := by rw [hg5, HB.out]; exact HR.out.below.size
      rw [← hW1, ← hg5]
      have RX1 : Hid (Rk fs c kn (pre ++ [(p, d)]) ∧ (∃ n, Md W1 B (B + 1) n kn ∧ n + rkM c kn (pre ++ [(p, d)]) ≤ 400000) ∧ W1.ownsRow B 147 2 (.slice (some ⟨g4, 0, none⟩) m c4) m (mz pre) ∧ Below w.heap.size w W1 ∧ W1.heap[B]? = some (.cells #[.slice ao nc co, .slice af nf cf] 80 (0, 0)) ∧ g4 ≠ g5) := by
        obtain ⟨n, n1, n2⟩ := HR.out.md
        have hl4 := (CUT.out.lt g4 rfl).2
        exact ⟨HR.out.rk, ⟨n, n1.later b1, n2⟩, own_later CUT.out b1, below_on HR.out.below b1, (b1.block B (lt_of_block HR.out.ways)).trans HR.out.ways, by omega⟩
      have K5 := hide k5
      have HG5 := hide hBg5
      clear hW1 hg5 b1 CUT HR d1 d2 k5 hBg5
      obtain ⟨rk1, ⟨n, md1, hn1⟩, ow1, bw1, wy1, hne1⟩ := RX1.out
      obtain ⟨v30, hla, ho30, hb30⟩ := md1.look p (by have := HP.out.1; have := HC2.out; omega)
      have hl30 := hla W1 rfl
      have HLA := hide hla
      have e0 : W1.cell? ⟨g5, 0, none⟩ = some (.int .i64 (p : Int)) := by rw [cell_of_row W1 _ _ _ 147 (0, 0) K5.out]; rfl
      have e1 : W1.cell? ⟨g5, 1, none⟩ = some (.int .i64 (d : Int)) := by rw [cell_of_row W1 _ _ _ 147 (0, 0) K5.out]; rfl
      have JC := hide (contains_n d ho30)
      have HO30 := hide ho30
      have HB30 := hide hb30
      have MD1 := hide md1
      have HN1 := hide hn1
      clear hla ho30 hb30 md1 hn1 rk1 ow1 bw1 wy1 hne1
      by_cases cd : d ∈ kn p
      · rw [decide_eq_true cd] at JC
        have CD := hide cd
        clear cd
        go_wp2_with fail
        refine JC.out.mono ?_
        rintro e w2 ⟨rfl, rfl⟩
        have RN : Hid (Rx w B B (B + 1) (.slice ao nc co) (.slice af nf cf) fs c kn pre (.slice (some ⟨g4, 0, none⟩) m c4) w2) := by
          obtain ⟨rk1, -, ow1, bw1, wy1, -⟩ := RX1.out
          refine ⟨rk1.known CD.out, ⟨n, MD1.out, ?_⟩, HM.out ▸ ow1, bw1, wy1⟩
          have h1 := HN1.out
          have h2 := rkM_known (c := c) (kn := kn) (op := pre) (m := (p, d))
          omega
        clear JC RX1 MD1 hl30 e0 e1
        go_wp2_with fail
        go_roundg (rkM c kn pre)
        case measure => exact rkM_known
        case rel => exact ⟨kn, pre, rfl, RN.out⟩
      · rw [decide_eq_false cd] at JC
        have CD := hide cd
        clear cd
        go_wp2_with fail
        refine JC.out.mono ?_
        rintro e w2 ⟨rfl, rfl⟩
        clear JC hl30 e0 e1
        have hfew : (kn p).length ≤ 65 := RX1.out.1.few HC0.out p
        have hmapB : ∃ es ck, w2.heap[B + 1]? = some (.map es ck) := MD1.out.isMap
        have hbd := below_drew w2
        have SX : Hid (∀ V : World, V.heap[g5]? = w2.heap[g5]? → V.heap[B + 1]? = w2.heap[B + 1]? → (V.cell? ⟨g5, 0, none⟩ = some (.int .i64 (p : Int)) ∧ V.cell? ⟨g5, 1, none⟩ = some (.int .i64 (d : Int))) ∧ (Instr.lookup 118 (.map (some (B + 1))) (.int .i64 (p : Int)) false).run Tryz.prog V = .ok v30 V) := fun V h1 h2 => by
          have k := h1.trans K5.out
          refine ⟨⟨?_, ?_⟩, HLA.out V h2⟩
          · rw [cell_of_row V _ _ _ 147 (0, 0) k]; rfl
          · rw [cell_of_row V _ _ _ 147 (0, 0) k]; rfl
        have hg5s : g5 < w2.heap.size := lt_of_block K5.out
        have hgms : B + 1 < w2.heap.size := MD1.out.lt
        have S0 := SX.out w2.drew (hbd.block g5 hg5s) (hbd.block (B + 1) hgms)
        have bda : Below w2.heap.size w2 (w2.drew.alloc (.cells #[.int .i64 (d : Int)] 3)) := below_on hbd (below_alloc _ _)
        have SB := SX.out (w2.drew.alloc (.cells #[.int .i64 (d : Int)] 3)) (bda.block g5 hg5s) (bda.block (B + 1) hgms)
        have OA : (w2.drew.alloc (.cells #[.int .i64 (d : Int)] 3)).ownsRow B 3 1 v30 (kn p).length (nz (kn p)) := own_later HO30.out bda
        have n5 : v30.ownBlock ≠ some g5 := fun e => by
          obtain ⟨cur, hc⟩ := own_blk2 HO30.out e
          rw [K5.out] at hc
          simp at hc
        have nm : v30.ownBlock ≠ some (B + 1) := fun e => by
          obtain ⟨cur, hc⟩ := own_blk2 HO30.out e
          obtain ⟨es, ck, hx⟩ := hmapB
          rw [hx] at hc
          cases hc
        go_upto_region 7 with fail
        refine wp_region_late (J := fun i => i != 11) (S := (fun V => (V.cell? ⟨g5, 0, none⟩ = some (.int .i64 (p : Int)) ∧ V.cell? ⟨g5, 1, none⟩ = some (.int .i64 (d : Int))) ∧ (Instr.lookup 118 (.map (some (B + 1))) (.int .i64 (p : Int)) false).run Tryz.prog V = .ok v30 V)) (by kernel_rfl) (S0) (fun hHeld => ?_)
        refine' wpAnyJ_takeW (i := 0) (oi := { dst := some 34, op := Go.Op.move (Go.Operand.tmp 3), type := 118, pos := "ways.go:70", after := #[], guard := none }) (v := _) rfl (by kernel_rfl) (by kernel_rfl) (by kernel_rfl) (fun _ _ _ h => h) (Or.inl ⟨by rfl, ?hyj11⟩) ?rej11
        case hyj11 => (intro W hSw; (try dsimp only at hSw); go_simp; try with_reducible rfl)
        try simp only [Act.put, List.setIfInBounds_toArray, List.set_cons_zero, List.set_cons_succ]
        refine' wpAnyJ_takeW (i := 1) (oi := { dst := some 35, op := Go.Op.fieldAddr 147 (Go.Operand.tmp 5) 0, type := 0, pos := "ways.go:70", after := #[], guard := none }) (v := _) rfl (by kernel_rfl) (by kernel_rfl) (by kernel_rfl) (fun _ _ _ h => h) (Or.inl ⟨by rfl, ?hyj12⟩) ?rej12
        case hyj12 => (intro W hSw; (try dsimp only at hSw); go_simp; try with_reducible rfl)
        try simp only [Act.put, List.setIfInBounds_toArray, List.set_cons_zero, List.set_cons_succ]
        refine' wpAnyJ_take (i := 2) (oi := { dst := some 36, op := Go.Op.load 3 (Go.Operand.tmp 35), type := 3, pos := "ways.go:70", after := #[{ on := 1, ground := Go.Ground.data }], guard := none }) (v := _) rfl (by kernel_rfl) (by kernel_rfl) (by kernel_rfl) (by kernel_rfl) (fun _ _ _ h => h) (Or.inl ⟨by rfl, ?hyj13⟩) (by assumption) ?rej13
        case hyj13 => (intro W hSw; (try dsimp only at hSw); go_simp; try with_reducible rfl)
        try simp only [Act.put, List.setIfInBounds_toArray, List.set_cons_zero, List.set_cons_succ]
        refine' wpAnyJ_takeW (i := 3) (oi := { dst := some 37, op := Go.Op.move (Go.Operand.tmp 3), type := 118, pos := "ways.go:70", after := #[], guard := none }) (v := _) rfl (by kernel_rfl) (by kernel_rfl) (by kernel_rfl) (fun _ _ _ h => h) (Or.inl ⟨by rfl, ?hyj14⟩) ?rej14
        case hyj14 => (intro W hSw; (try dsimp only at hSw); go_simp; try with_reducible rfl)
        try simp only [Act.put, List.setIfInBounds_toArray, List.set_cons_zero, List.set_cons_succ]
        refine' wpAnyJ_takeW (i := 4) (oi := { dst := some 38, op := Go.Op.fieldAddr 147 (Go.Operand.tmp 5) 0, type := 0, pos := "ways.go:70", after := #[], guard := none }) (v := _) rfl (by kernel_rfl) (by kernel_rfl) (by kernel_rfl) (fun _ _ _ h => h) (Or.inl ⟨by rfl, ?hyj15⟩) ?rej15
        case hyj15 => (intro W hSw; (try dsimp only at hSw); go_simp; try with_reducible rfl)
        try simp only [Act.put, List.setIfInBounds_toArray, List.set_cons_zero, List.set_cons_succ]
        refine' wpAnyJ_take (i := 5) (oi := { dst := some 39, op := Go.Op.load 3 (Go.Operand.tmp 38), type := 3, pos := "ways.go:70", after := #[{ on := 4, ground := Go.Ground.data }], guard := none }) (v := _) rfl (by kernel_rfl) (by kernel_rfl) (by kernel_rfl) (by kernel_rfl) (fun _ _ _ h => h) (Or.inl ⟨by rfl, ?hyj16⟩) (by assumption) ?rej16
        case hyj16 => (intro W hSw; (try dsimp only at hSw); go_simp; try with_reducible rfl)
        try simp only [Act.put, List.setIfInBounds_toArray, List.set_cons_zero, List.set_cons_succ]
        refine' wpAnyJ_take (i := 6) (oi := { dst := some 40, op := Go.Op.lookup 118 (Go.Operand.tmp 37) (Go.Operand.tmp 39) false, type := 36, pos := "ways.go:70", after := #[{ on := 3, ground := Go.Ground.data }, { on := 5, ground := Go.Ground.data }], guard := none }) (v := _) rfl (by kernel_rfl) (by kernel_rfl) (by kernel_rfl) (by kernel_rfl) (fun _ _ _ h => h) (Or.inl ⟨by rfl, ?hyj17⟩) (by assumption) ?rej17
        case hyj17 => (intro W hSw; (try dsimp only at hSw); go_simp; try with_reducible rfl)
        try simp only [Act.put, List.setIfInBounds_toArray, List.set_cons_zero, List.set_cons_succ]
        refine' wpAnyJ_takeW (i := 7) (oi := { dst := some 41, op := Go.Op.fieldAddr 147 (Go.Operand.tmp 5) 1, type := 0, pos := "ways.go:70", after := #[], guard := none }) (v := _) rfl (by kernel_rfl) (by kernel_rfl) (by kernel_rfl) (fun _ _ _ h => h) (Or.inl ⟨by rfl, ?hyj18⟩) ?rej18
        case hyj18 => (intro W hSw; (try dsimp only at hSw); go_simp; try with_reducible rfl)
        try simp only [Act.put, List.setIfInBounds_toArray, List.set_cons_zero, List.set_cons_succ]
        refine' wpAnyJ_take (i := 8) (oi := { dst := some 42, op := Go.Op.load 3 (Go.Operand.tmp 41), type := 3, pos := "ways.go:70", after := #[{ on := 7, ground := Go.Ground.data }], guard := none }) (v := _) rfl (by kernel_rfl) (by kernel_rfl) (by kernel_rfl) (by kernel_rfl) (fun _ _ _ h => h) (Or.inl ⟨by rfl, ?hyj19⟩) (by assumption) ?rej19
        case hyj19 => (intro W hSw; (try dsimp only at hSw); go_simp; try with_reducible rfl)
        try simp only [Act.put, List.setIfInBounds_toArray, List.set_cons_zero, List.set_cons_succ]
        refine wpAnyJ_ready (rs := [9]) (by kernel_rfl) (by simp) ?_
        refine AllReadyJ.cons (o := { dst := some 43, op := Go.Op.buildSlice 36 1 #[(0, Go.Operand.tmp 42)], type := 36, pos := "ways.go:70", after := #[{ on := 8, ground := Go.Ground.data }], guard := none }) rfl (fun K hK => ?_) AllReadyJ.nil
        go_simp
        refine hK.out _ _ (fun _ _ => SB) ?_
        clear hK K
        try simp only [Act.put, List.setIfInBounds_toArray, List.set_cons_zero, List.set_cons_succ]
        refine wpAnyJ_ready (rs := [10]) (by kernel_rfl) (by simp) ?_
        refine AllReadyJ.cons (o := { dst := some 44, op := Go.Op.call { callee := Go.Callee.builtin Go.Builtin.append, args := #[Go.Operand.tmp 40, Go.Operand.tmp 43], argTypes := #[36, 36] }, type := 36, pos := "ways.go:70", after := #[{ on := 6, ground := Go.Ground.data }, { on := 9, ground := Go.Ground.data }], guard := none }) rfl (fun K hK => ?_) AllReadyJ.nil
        refine step_append_lies _ rfl (.tmp 40) (.tmp 43) 36 rfl B 3 ii (.int .i64 0) 1 8 Tryz.underlying36 hii hzi0 hzi1 hzi2 rfl (by decide) v30 (kn p).length (nz (kn p)) (by simp [Act.eval]) OA ⟨w2.heap.size, 0, none⟩ 1 1 [.int .i64 (d : Int)] (by simp [Act.eval]) rfl (by intro j u hj; match j, hj with | 0, hj => simp at hj; subst hj; simp [Addr.add]) (by intro u hu; simp at hu; subst hu; rfl) (by omega) (by unfold maxLen; omega) (by omega) (by simp; omega) _ rfl ?_
        intro g9 c9 w9 ho9 hg9 hw9 _
        have SA := SX.out w9 ((hg9.block g5 (by simp; omega) (fun e => n5 e.symm)).trans (bda.block g5 hg5s)) ((hg9.block (B + 1) (by simp; omega) (fun e => nm e.symm)).trans (bda.block (B + 1) hgms))
        refine hK.out _ _ (fun _ _ => SA) ?_
        clear hK K
        try simp only [Act.put, List.setIfInBounds_toArray, List.set_cons_zero, List.set_cons_succ]
        obtain ⟨w10, hput, md10, hg10⟩ := (MD1.out.later hbd).put p d (by have := HP.out.1; have := HC2.out; omega) (by have := HN1.out; omega) (S0.2) (m := (kn p).length + 1) (c' := c9) rfl ((World.grownBy_alloc _ _ _).trans hg9) (by simpa [nz] using ho9) (hw9.imp id (fun e => by rw [e]; simp))
        refine wpAnyJ_ready (rs := [11]) (by kernel_rfl) (by simp) ?_
        refine AllReadyJ.cons (o := { dst := none, op := Go.Op.mapUpdate 118 (Go.Operand.tmp 34) (Go.Operand.tmp 36) (Go.Operand.tmp 44), type := 0, pos := "ways.go:70", after := #[{ on := 0, ground := Go.Ground.data }, { on := 2, ground := Go.Ground.data }, { on := 10, ground := Go.Ground.data }, { on := 10, ground := Go.Ground.chain }, { on := 0, ground := Go.Ground.phase }, { on := 1, ground := Go.Ground.phase }, { on := 2, ground := Go.Ground.phase }, { on := 3, ground := Go.Ground.phase }, { on := 4, ground := Go.Ground.phase }, { on := 5, ground := Go.Ground.phase }, { on := 6, ground := Go.Ground.phase }, { on := 7, ground := Go.Ground.phase }, { on := 8, ground := Go.Ground.phase }, { on := 9, ground := Go.Ground.phase }, { on := 10, ground := Go.Ground.phase }], guard := none }) rfl (fun K hK => ?_) AllReadyJ.nil
        go_simp
        refine hK.out _ _ (fun h => absurd h (by decide)) ?_
        clear hK K
        try simp only [Act.put, List.setIfInBounds_toArray, List.set_cons_zero, List.set_cons_succ]
        refine wpAnyJ_done (by kernel_rfl) ?_ _
        have RY : Hid (Md w10 B (B + 1) (n + 1) (knA kn p d) ∧ w10.ownsRow B 147 2 (.slice (some ⟨g4, 0, none⟩) m c4) m (mz pre) ∧ Below w.heap.size w w10 ∧ w10.heap[B]? = some (.cells #[.slice ao nc co, .slice af nf cf] 80 (0, 0)) ∧ w10.heap[g5]? = some (.cells #[.int .i64 (p : Int), .int .i64 (d : Int)] 147 (0, 0))) := by
          obtain ⟨-, -, ow1, bw1, wy1, -⟩ := RX1.out
          have nB : v30.ownBlock ≠ some B := fun e => by
            obtain ⟨cur, hc⟩ := own_blk2 HO30.out e
            rw [wy1] at hc
            simp at hc
          have n4 : v30.ownBlock ≠ some g4 := fun e => own_ap2 HO30.out ow1 (by decide) g4 e rfl
          have hmg : B + 1 ≠ g4 := fun e => by
            obtain ⟨cur, hc⟩ := own_blk2 ow1 (g := g4) rfl
            obtain ⟨es, ck, hx⟩ := hmapB
            rw [← e, hx] at hc
            cases hc
          have hm5' : B + 1 ≠ g5 := fun e => by
            obtain ⟨es, ck, hx⟩ := hmapB
            have := K5.out
            rw [← e, hx] at this
            cases this
          have gA : w2.grownBy w9 v30.ownBlock := ((grown_later hbd).but _).trans ((World.grownBy_alloc _ _ _).trans hg9)
          have at10 : ∀ k, k < w2.heap.size → v30.ownBlock ≠ some k → k ≠ B + 1 → w10.heap[k]? = w2.heap[k]? := fun k hk h1 h2 => (hg10.block k (Nat.lt_of_lt_of_le hk gA.size) (by simpa using h2)).trans (gA.block k hk (fun e => h1 e.symm))
          refine ⟨md10, ?_, ?_, ?_, ?_⟩
          · exact own_kept (own_kept ow1 gA (fun k e => by simp only [Value.ownBlock, Option.some.injEq] at e; exact e ▸ n4)) hg10 (fun k e => by simp only [Value.ownBlock, Option.some.injEq] at e; subst e; simpa using hmg)
          · have hB := HB.out
            exact (bw1.grown gA (by have := bw1.size; omega) (fun k e => by have := (HB30.out k e).2; omega)).grown hg10 (by have := bw1.size; have := gA.size; omega) (fun k e => by simp at e; omega)
          · exact (at10 B (lt_of_block wy1) nB (by omega)).trans wy1
          · exact (at10 g5 hg5s n5 (fun e => hm5' e.symm)).trans K5.out
        clear hput md10 hg10 ho9 hg9 hw9 SA SB S0 SX OA bda n5 nm hbd hg5s hgms hmapB
        have y1 := RY.out.2.2.2.1
        have y2 := RY.out.2.2.2.2
        have f0 : w10.cell? ⟨B, 0, none⟩ = some (.slice ao nc co) := by rw [cell_of_row w10 _ _ _ 80 (0, 0) y1]; rfl
        have f1 : w10.cell? ⟨B, 1, none⟩ = some (.slice af nf cf) := by rw [cell_of_row w10 _ _ _ 80 (0, 0) y1]; rfl
        have f2 : w10.cell? ⟨g5, 0, none⟩ = some (.int .i64 (p : Int)) := by rw [cell_of_row w10 _ _ _ 147 (0, 0) y2]; rfl
        have f3 : w10.cell? ⟨g5, 1, none⟩ = some (.int .i64 (d : Int)) := by rw [cell_of_row w10 _ _ _ 147 (0, 0) y2]; rfl
        have J1 := hide (JB.out w10 p d RY.out.2.2.1 (by rw [HNC.out]; exact HP.out.1) HP.out.2)
        have RK : Hid (Rk fs c (knA kn p d) (pre ++ momI fs c p d) ∧ (n + 1) + rkM c (knA kn p d) (pre ++ momI fs c p d) ≤ 400000 ∧ rkM c (knA kn p d) (pre ++ momI fs c p d) < rkM c kn (pre ++ [(p, d)])) := by
          have hlt : (kn p).length < 65 := by
            have h1 := (RX1.out.1.new CD.out).few HC0.out p
            have : (knA kn p d p).length = (kn p).length + 1 := by simp [knA]
            omega
          have h2 := rkM_new (fs := fs) (op := pre) (d := d) HP.out.1 hlt
          have h3 := HN1.out
          exact ⟨RX1.out.1.new CD.out, by omega, h2⟩
        clear y1 y2 RX1 MD1 HO30 HB30 HLA K5 HN1 CD
        go_wp2_with fail
        refine J1.out.mono ?_
        rintro e w11 ⟨⟨dv, rfl, hdv⟩, b11⟩
        clear f0 f1 f2 f3 J1
        cases hbe : behI fs c p d with
        | none =>
          have RN : Hid (Rx w B B (B + 1) (.slice ao nc co) (.slice af nf cf) fs c (knA kn p d) (pre ++ momI fs c p d) (.slice (some ⟨g4, 0, none⟩) m c4) w11) := by
            obtain ⟨z1, z2, z3, z4, z5⟩ := RY.out
            have hmo : momI fs c p d = [] := by unfold momI; rw [hbe]
            refine ⟨RK.out.1, ⟨n + 1, z1.later b11, RK.out.2.1⟩, ?_, below_on z3 b11, (b11.block B (lt_of_block z4)).trans z4⟩
            rw [hmo, List.append_nil, ← HM.out]
            exact own_later z2 b11
          clear hdv b11 hbe
          go_wp2_with fail
          go_roundg (rkM c (knA kn p d) (pre ++ momI fs c p d))
          case measure => exact RK.out.2.2
          case rel => exact ⟨_, _, rfl, RN.out⟩
        | some d' =>
          have hdv' := hdv d' hbe
          subst hdv'
          have hmo : momI fs c p d = (onwI c p).map fun y => (y, d') := by unfold momI; rw [hbe]
          obtain ⟨L, hL⟩ : ∃ L, L = onwI c p := ⟨_, rfl⟩
          have RZ : Hid (Md w11 B (B + 1) (n + 1) (knA kn p d) ∧ w11.ownsRow B 147 2 (.slice (some ⟨g4, 0, none⟩) m c4) m (mz pre) ∧ Below w.heap.size w w11 ∧ w11.heap[B]? = some (.cells #[.slice ao nc co, .slice af nf cf] 80 (0, 0)) ∧ w11.heap[g5]? = some (.cells #[.int .i64 (p : Int), .int .i64 (d : Int)] 147 (0, 0))) := by
            obtain ⟨z1, z2, z3, z4, z5⟩ := RY.out
            exact ⟨z1.later b11, own_later z2 b11, below_on z3 b11, (b11.block B (lt_of_block z4)).trans z4, (b11.block g5 (lt_of_block z5)).trans z5⟩
          have y1 := RZ.out.2.2.2.1
          have y2 := RZ.out.2.2.2.2
          have f0 : w11.cell? ⟨B, 0, none⟩ = some (.slice ao nc co) := by rw [cell_of_row w11 _ _ _ 80 (0, 0) y1]; rfl
          have f1 : w11.cell? ⟨B, 1, none⟩ = some (.slice af nf cf) := by rw [cell_of_row w11 _ _ _ 80 (0, 0) y1]; rfl
          have f2 : w11.cell? ⟨g5, 0, none⟩ = some (.int .i64 (p : Int)) := by rw [cell_of_row w11 _ _ _ 147 (0, 0) y2]; rfl
          have J2 := hide (JO.out w11 p RZ.out.2.2.1 (by rw [HNC.out]; exact HP.out.1))
          have HL2 : Hid (L.length ≤ 2) := by
            unfold Hid
            rw [hL]
            unfold onwI
            rw [List.length_map]
            exact Nat.le_trans (List.length_filter_le _ _) (nextI_len c p)
          rw [← hL] at J2 hmo
          rw [hmo] at RK
          have HMO := hide hmo
          clear y1 y2 hdv b11 RY hL hmo hbe
          go_wp2_with fail
          refine J2.out.mono ?_
          rintro e w12 ⟨v55, rfl, ho55, b12⟩
          clear f0 f1 f2 J2
          obtain ⟨a55, c55, hv55⟩ := own_len ho55
          obtain ⟨hc1, hc2⟩ := own_cap (hv55 ▸ ho55)
          have H55 := hide (hv55 ▸ ho55)
          have I0 : Hid (Md w12 B (B + 1) (n + 1) (knA kn p d) ∧ w12.ownsRow B 147 2 (.slice (some ⟨g4, 0, none⟩) m c4) (pre ++ (L.take 0).map fun y => (y, d')).length (mz (pre ++ (L.take 0).map fun y => (y, d'))) ∧ Below w.heap.size w w12 ∧ w12.heap[B]? = some (.cells #[.slice ao nc co, .slice af nf cf] 80 (0, 0)) ∧ w12.ownsRow w11.heap.size 3 1 (.slice a55 L.length c55) L.length (nz L)) := by
            obtain ⟨z1, z2, z3, z4, -⟩ := RZ.out
            refine ⟨z1.later b12, ?_, below_on z3 b12, (b12.block B (lt_of_block z4)).trans z4, H55.out⟩
            rw [List.take_zero, List.map_nil, List.append_nil, ← HM.out]
            exact own_later z2 b12
          have hB11 : Hid (B ≤ w11.heap.size) := by have := RZ.out.2.2.1.size; have := HB.out; unfold Hid; omega
          subst hv55
          obtain ⟨nl, hnl⟩ : ∃ x, x = L.length := ⟨_, rfl⟩
          have HNL := hide hnl
          have H56 : Hid (∀ W : World, W.ownsRow w11.heap.size 3 1 (.slice a55 L.length c55) L.length (nz L) → W.ownsRow w11.heap.size 3 1 (.slice a55 nl c55) nl (nz L)) := fun W h => hnl ▸ h
          rw [← hnl] at hc1 ⊢
          clear ho55 b12 RZ H55 hnl
          go_wp2_with fail
          go_loopw [4, 57] (fun v4 v57 W => ∃ i : Nat, i ≤ nl ∧ v57 = .int .i64 (i : Int) ∧ Hid (Md W B (B + 1) (n + 1) (knA kn p d) ∧ W.ownsRow B 147 2 v4 (pre ++ (L.take i).map fun y => (y, d')).length (mz (pre ++ (L.take i).map fun y => (y, d'))) ∧ Below w.heap.size w W ∧ W.heap[B]? = some (.cells #[.slice ao nc co, .slice af nf cf] 80 (0, 0)) ∧ W.ownsRow w11.heap.size 3 1 (.slice a55 L.length c55) L.length (nz L))) (fun _ v57 _ => nl - (intOf v57).toNat)
          case atStart => exact ⟨0, Nat.zero_le _, rfl, I0.out⟩
          case round =>
            obtain ⟨i, hi, rfl, HI⟩ := hrel
            clear I0
            obtain ⟨z1, z2, z3, z4, z5⟩ := HI.out
            obtain ⟨mi, hmi⟩ : ∃ x, x = (pre ++ (L.take i).map fun y => (y, d')).length := ⟨_, rfl⟩
            rw [← hmi] at z2
            obtain ⟨a4', c4', rfl⟩ := own_len z2
            have hmi2 : mi ≤ 400010 := by
              rw [hmi, List.length_append, List.length_map, List.length_take, ← HM.out]
              have := HL2.out
              omega
            have HMI := hide hmi
            by_cases hlt : i < nl
            · have t1' : (i : Int) < (nl : Int) := by omega
              have hil : i < L.length := by have := HNL.out; omega
              have z5' := H56.out _ z5
              obtain ⟨ga, ca, ea, -, -⟩ := own_form z5' (by omega)
              simp only [Value.slice.injEq, true_and] at ea
              obtain ⟨rfl, rfl⟩ := ea
              have d3 : wr.cell? ⟨ga, i, none⟩ = some (.int .i64 (L[i] : Int)) := by rw [z5'.cellAt i (by omega), nz_at L i hil]
              have htk : L.take (i + 1) = L.take i ++ [L[i]] := List.take_succ_eq_append_getElem hil
              have Z := hide HI.out
              have HTK := hide htk
              obtain ⟨y, hy⟩ : ∃ y, y = L[i] := ⟨_, rfl⟩
              have OZ : Hid ((wr.alloc (.cells #[.int .i64 (y : Int), .int .i64 (d' : Int)] 147)).ownsRow B 147 2 (.slice a4' mi c4') mi (mz (pre ++ (L.take i).map fun y => (y, d')))) := own_later z2 (below_alloc wr _)
              have Z2 := hide z2
              rw [← hy] at d3 HTK
              clear z1 z2 z3 z4 z5 z5' hmi htk hy HI
              go_wp2_with (at_builtin; refine wpList_append_lies _ rfl _ _ 148 rfl B 147 im (.agg #[.int .i64 0, .int .i64 0]) 2 16 Tryz.underlying148 him hzm0 hzm1 hzm2 rfl (by decide) (.slice a4' mi c4') mi _ rfl OZ.out ⟨wr.heap.size, 0, none⟩ 1 1 [.int .i64 (y : Int), .int .i64 (d' : Int)] rfl rfl (by intro j u hj; match j, hj with | 0, hj => simp at hj; subst hj; simp [Addr.add] | 1, hj => simp at hj; subst hj; simp [Addr.add]) (by intro u hu; simp at hu; rcases hu with rfl | rfl <;> rfl) (by omega) (by unfold maxLen; omega) (by omega) (by have := Z.out.2.2.1.size; have := HB.out; simp; omega) _ rfl ?_)
              intro g9 c9 w9 ho9 hg9 hw9 _
              have HN : Hid (Md w9 B (B + 1) (n + 1) (knA kn p d) ∧ w9.ownsRow B 147 2 (.slice (some ⟨g9, 0, none⟩) (mi + 1) c9) (pre ++ (L.take (i + 1)).map fun y => (y, d')).length (mz (pre ++ (L.take (i + 1)).map fun y => (y, d'))) ∧ Below w.heap.size w w9 ∧ w9.heap[B]? = some (.cells #[.slice ao nc co, .slice af nf cf] 80 (0, 0)) ∧ w9.ownsRow w11.heap.size 3 1 (.slice (some ⟨ga, 0, none⟩) L.length c55) L.length (nz L)) := by
                obtain ⟨z1, z2, z3, z4, z5⟩ := Z.out
                have ba := below_alloc wr (.cells #[.int .i64 (y : Int), .int .i64 (d' : Int)] 147)
                refine ⟨(z1.later ba).other OZ.out (by decide) hg9, ?_, ?_, ?_, ?_⟩
                · have e1 : (pre ++ (L.take (i + 1)).map fun y => (y, d')) = (pre ++ (L.take i).map fun y => (y, d')) ++ [(y, d')] := by rw [HTK.out, List.map_append, List.append_assoc]; rfl
                  rw [e1, List.length_append, ← HMI.out, mz_append, List.map_take]
                  exact ho9
                · have hb := below_on z3 ba
                  exact hb.grown hg9 hb.size (fun k e => by have := (OZ.out.lt k e).1; have := HB.out; omega)
                · refine (hg9.block B (by have := lt_of_block z4; simp; omega) (fun e => ?_)).trans ((ba.block B (lt_of_block z4)).trans z4)
                  obtain ⟨cur, hc⟩ := own_blk2 Z2.out e.symm
                  rw [z4] at hc
                  simp at hc
                · refine own_kept (own_later z5 ba) hg9 (fun k e e' => ?_)
                  exact own_ap2 (own_later z5 ba) OZ.out (by decide) k e e'
              clear ho9 hg9 hw9 Z Z2 OZ d3
              go_wp2_with fail
              go_roundw
              case rel => exact ⟨i + 1, by omega, rfl, HN.out⟩
              case measure => simp only [intOf]; omega
            · have t1' : ¬ (i : Int) < (nl : Int) := by omega
              have RN : Hid (Rx w B B (B + 1) (.slice ao nc co) (.slice af nf cf) fs c (knA kn p d) (pre ++ L.map fun y => (y, d')) (.slice a4' mi c4') wr) := by
                have hi2 : L.take i = L := List.take_of_length_le (by have := HNL.out; omega)
                rw [hi2] at HMI
                rw [hi2, HMI.out] at z2
                rw [HMI.out]
                exact ⟨RK.out.1, ⟨n + 1, z1, RK.out.2.1⟩, z2, z3, z4⟩
              clear z1 z2 z3 z4 z5 hmi HI HMI
              go_wp2_with fail
              go_roundg (rkM c (knA kn p d) (pre ++ L.map fun y => (y, d')))
              case measure => exact RK.out.2.2
              case rel => exact ⟨_, _, rfl, RN.out⟩
end Go.Proofs.YtfkhhplcogedmaaGreatDoor
