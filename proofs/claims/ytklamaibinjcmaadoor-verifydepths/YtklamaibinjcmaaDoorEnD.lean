/-
  setBytes, routineBytes.
-/
import Derived.Test.YtklamaibinjcmaaDoorMgJ
namespace Go.Proofs.YtklamaibinjcmaaDoor
open Go.RowKit
set_option maxRecDepth 100000
def kindsBy (l : List Int) : List UInt8 := l.flatMap fun k => uv k.toNat
theorem kindsBy_snoc {l : List Int} {k : Nat} (h : k < l.length) : kindsBy (l.take (k + 1)) = kindsBy (l.take k) ++ uv l[k].toNat := by
  unfold kindsBy
  rw [List.take_add_one, List.getElem?_eq_getElem h, List.flatMap_append]
  simp
def codeBy (l : List Ins) : List UInt8 := l.flatMap insBy
theorem codeBy_snoc {l : List Ins} {k : Nat} (h : k < l.length) : codeBy (l.take (k + 1)) = codeBy (l.take k) ++ insBy l[k] := by
  unfold codeBy
  rw [List.take_add_one, List.getElem?_eq_getElem h, List.flatMap_append]
  simp
/-- A set's numbers, each as they may be. -/
theorem setFrom_mem : ∀ {l : List Int} {last : Int}, 0 ≤ last → setFrom last l = true → (∀ k ∈ l, last < k ∧ 1 ≤ k ∧ k ≤ 12) ∧ last + l.length ≤ 12 + (if l = [] then last else 0)
  | [], last, h0, _ => by simp; omega
  | k :: l, last, h0, h => by
    rw [setFrom_cons, Bool.and_eq_true, decide_eq_true_eq] at h
    obtain ⟨⟨h1, h2⟩, h3⟩ := h
    obtain ⟨e1, e2⟩ := setFrom_mem (l := l) (last := k) (by omega) h3
    refine ⟨fun x hx => ?_, ?_⟩
    · rw [List.mem_cons] at hx
      rcases hx with rfl | hx
      · exact ⟨h1, by omega, h2⟩
      · have := e1 x hx
        omega
    · rw [if_neg (by simp)]
      simp only [List.length_cons]
      by_cases hl : l = []
      · subst hl; simp; omega
      · rw [if_neg hl] at e2
        omega
theorem setOk_mem {l : List Int} (h : setOk l = true) : (∀ k ∈ l, 1 ≤ k ∧ k ≤ 12) ∧ l.length ≤ 12 := by
  obtain ⟨h1, h2⟩ := setFrom_mem (by omega) h
  refine ⟨fun k hk => (h1 k hk).2, ?_⟩
  by_cases hl : l = []
  · subst hl; simp
  · rw [if_neg hl] at h2
    omega
theorem kindsBy_len : ∀ {l : List Int}, (∀ k ∈ l, 1 ≤ k ∧ k ≤ 12) → (kindsBy l).length ≤ 10 * l.length
  | [], _ => by simp [kindsBy]
  | k :: l, h => by
    have h1 := h k (by simp)
    have h2 := uv_len (n := k.toNat) (by omega)
    have h3 := kindsBy_len (l := l) (fun x hx => h x (by simp [hx]))
    unfold kindsBy at h3 ⊢
    rw [List.flatMap_cons, List.length_append, List.length_cons]
    omega
theorem codeBy_len : ∀ {l : List Ins}, (∀ i ∈ l, (1 ≤ i.op ∧ i.op ≤ 39) ∧ I6 i.a) → (codeBy l).length ≤ 20 * l.length
  | [], _ => by simp [codeBy]
  | i :: l, h => by
    have h1 := h i (by simp)
    have h2 := insBy_len h1.1 h1.2
    have h3 := codeBy_len (l := l) (fun x hx => h x (by simp [hx]))
    unfold codeBy at h3 ⊢
    rw [List.flatMap_cons, List.length_append, List.length_cons]
    omega
theorem setBy_len {l : List Int} (h : setOk l = true) : (setBy l).length ≤ 130 := by
  obtain ⟨h1, h2⟩ := setOk_mem h
  have h3 := kindsBy_len h1
  have h4 := uv_len (n := l.length) (by omega)
  have e : setBy l = uv l.length ++ kindsBy l := rfl
  rw [e, List.length_append]
  omega
set_option maxHeartbeats 2000000 in
theorem setbytes_at {Q : Nat → Prop} {W : World} {n c : Nat} {ao : Option Addr} (l : List Int) (hn : n = l.length) (hc1 : n ≤ c) (_hc2 : c ≤ 9223372036854775807) (h : Nl Q W (.slice ao n c) l) (hok : setOk l = true) : Calls Tryd.prog 50 #[.slice ao n c] W (ByOut W (setBy l)) := by
  obtain ⟨hm, hl12⟩ := setOk_mem hok
  have J0 := hide (put_out n (Bs.nil W) (by omega) (by simp))
  have TE : Hid (setBy l = [] ++ uv n ++ kindsBy l) := by unfold Hid; rw [hn]; rfl
  have HM := hide hm
  have HN := hide hn
  have H := hide h
  have hul := uv_len (n := n) (by omega)
  rw [← hn] at hl12
  clear hm hn h hok
  go_enter Tryd.func50, Tryd.ntmps50
  go_wp2_with fail
  refine J0.out.mono ?_
  rintro e w1 ⟨v1, rfl, ho1, hb1⟩
  have O1 := hide ho1
  have H1 := hide hb1
  clear ho1 hb1 J0
  go_wp2_with fail
  go_loopw [12, 3] (fun v u wr => ∃ k : Nat, v = .int .i64 (k : Int) ∧ k ≤ n ∧ Hid (wr.ownsRow W.heap.size 5 1 u ([] ++ uv n ++ kindsBy (l.take k)).length (Lib.byteCells ([] ++ uv n ++ kindsBy (l.take k)))) ∧ Hid (Below W.heap.size W wr)) (fun v _ _ => n - (intOf v).toNat)
  case atStart => exact ⟨0, rfl, by omega, by unfold Hid; simpa [kindsBy] using O1.out, H1.out⟩
  case round =>
    obtain ⟨k, rfl, hk, hown, hbw⟩ := hrel
    by_cases hlt : k < n
    · have hlt' : k < l.length := by rw [← HN.out]; exact hlt
      obtain ⟨g, o, rfl, -, d0, -⟩ := (H.out.later hbw.out).nth hlt'
      have hx := HM.out l[k] (List.getElem_mem hlt')
      have ES := hide (kindsBy_snoc hlt')
      have KL := kindsBy_len (l := l.take k) (fun x hx => HM.out x (List.mem_of_mem_take hx))
      rw [List.length_take] at KL
      have KL2 : ([] ++ uv n ++ kindsBy (l.take k)).length ≤ 1000 := by
        have : 10 * min k l.length ≤ 10 * 12 := Nat.mul_le_mul_left _ (by omega)
        simp only [List.length_append, List.length_nil]
        omega
      obtain ⟨x, hxx⟩ : ∃ x : Nat, l[k] = (x : Int) := ⟨l[k].toNat, by omega⟩
      rw [hxx] at d0 ES hx
      have J1 := hide (put_out x (own_bs hown.out) (by omega) (by omega))
      clear hxx KL
      go_wp2_with fail
      refine J1.out.mono ?_
      rintro e w2 ⟨v2, rfl, ho2, hb2⟩
      have O2 : Hid (w2.ownsRow W.heap.size 5 1 v2 ([] ++ uv n ++ kindsBy (l.take (k + 1))).length (Lib.byteCells ([] ++ uv n ++ kindsBy (l.take (k + 1))))) := by
        unfold Hid
        rw [ES.out, Int.toNat_natCast, ← List.append_assoc]
        exact own_lower ho2 hbw.out.size
      have HB2 := hide (below_on hbw.out hb2)
      clear ho2 hb2 J1
      go_wp2_with fail
      go_roundw
      case rel => exact ⟨k + 1, by go_num, by omega, O2.out, HB2.out⟩
      case measure => simp [intOf]; omega
    · obtain rfl : k = n := by omega
      have T2 : Hid (setBy l = [] ++ uv k ++ kindsBy (l.take k)) := by unfold Hid; rw [TE.out, HN.out, List.take_length]
      go_wp2_with fail
      go_ret
      rw [T2.out]
      exact ⟨_, rfl, hown.out, hbw.out⟩
theorem rtOk_all {r : Rt} (h : rtOk r = true) : (1 ≤ r.name.size ∧ r.name.size ≤ 16) ∧ (0 ≤ r.pa ∧ r.pa ≤ 4) ∧ (r.pa ≤ r.lo ∧ r.lo ≤ 32) ∧ r.code.length ≤ 2000 ∧ ∀ i ∈ r.code, 1 ≤ i.op ∧ i.op ≤ 39 := by
  unfold rtOk at h
  simp only [Bool.and_eq_true, decide_eq_true_eq] at h
  refine ⟨h.1.1.1.1, h.1.1.1.2, h.1.1.2, h.1.2, fun i hi => ?_⟩
  have := List.all_eq_true.1 h.2 i hi
  unfold isIns at this
  rw [Bool.and_eq_true, decide_eq_true_eq] at this
  exact this.1
theorem rtBy_len {r : Rt} (h : rtOk r = true) (h6 : ∀ i ∈ r.code, I6 i.a) : (rtBy r).length ≤ 41000 := by
  obtain ⟨h1, h2, h3, h4, h5⟩ := rtOk_all h
  have k1 := codeBy_len (l := r.code) (fun i hi => ⟨h5 i hi, h6 i hi⟩)
  have k2 := uv_len (n := r.name.size) (by omega)
  have k3 := uv_len (n := r.pa.toNat) (by omega)
  have k4 := uv_len (n := r.lo.toNat) (by omega)
  have k5 := uv_len (n := r.code.length) (by omega)
  have e : r.name.data.toList.length = r.name.size := by rw [Array.length_toList]; rfl
  have e2 : rtBy r = uv r.name.size ++ r.name.data.toList ++ uv r.pa.toNat ++ uv r.lo.toNat ++ uv r.code.length ++ codeBy r.code := rfl
  rw [e2]
  simp only [List.length_append]
  omega
theorem add_at (g j : Nat) : (⟨g, 0, none⟩ : Addr).add j = ⟨g, j, none⟩ := by
  unfold Addr.add
  simp
  intro h
  exact h.symm
theorem byteCells_cell {w : World} {B : Nat} {g c : Nat} {l : List UInt8} (h : w.ownsRow B 5 1 (.slice (some ⟨g, 0, none⟩) l.length c) l.length (Lib.byteCells l)) : ∀ j u, (Lib.byteCells l)[j]? = some u → w.cell? ((⟨g, 0, none⟩ : Addr).add j) = some u := by
  intro j u hj
  have hl := (List.getElem?_eq_some_iff.1 hj).1
  rw [Lib.byteCells_length] at hl
  have := h.cellAt j (by omega)
  rw [hj] at this
  rw [add_at g j]
  exact this
set_option maxHeartbeats 4000000 in
theorem routinebytes_at {Q : Nat → Prop} {W : World} {n c : Nat} {ao : Option Addr} (nm : ByteArray) (pa lo : Int) (code : List Ins) (hn : n = code.length) (hc1 : n ≤ c) (_hc2 : c ≤ 9223372036854775807) (h : Il Q W (.slice ao n c) code) (hok : rtOk ⟨nm, pa, lo, code⟩ = true) (ht : Tb W) : Calls Tryd.prog 51 #[.agg #[.string nm, .int .i64 pa, .int .i64 lo, .slice ao n c]] W (ByOut W (rtBy ⟨nm, pa, lo, code⟩)) := by
  obtain ⟨w0, hw0⟩ : ∃ X, X = W.alloc (.cells #[.string nm, .int .i64 pa, .int .i64 lo, .slice ao n c] 28) := ⟨_, rfl⟩
  have B0 : Below W.heap.size W w0 := hw0 ▸ below_alloc W _
  have n1 : w0.heap[W.heap.size]? = some (.cells #[.string nm, .int .i64 pa, .int .i64 lo, .slice ao n c] 28 (0, 0)) := by rw [hw0]; exact heap_alloc_new W _
  obtain ⟨B, hB⟩ : ∃ B, B = W.heap.size := ⟨_, rfl⟩
  rw [← hB] at n1
  obtain ⟨k1, k2, k3, k4, k5⟩ := rtOk_all hok
  dsimp only at k1 k2 k3 k4 k5
  have h6 := h.i6
  obtain ⟨p, rfl⟩ : ∃ p : Nat, pa = (p : Int) := ⟨pa.toNat, by omega⟩
  obtain ⟨q, rfl⟩ : ∃ q : Nat, lo = (q : Int) := ⟨lo.toNat, by omega⟩
  have J0 := hide (puttext_out nm (Bs.nil w0) (by simp) (by omega))
  have TE : Hid (rtBy ⟨nm, (p : Int), (q : Int), code⟩ = [] ++ uv nm.size ++ nm.data.toList ++ uv p ++ uv q ++ uv n ++ codeBy code) := by unfold Hid; rw [hn]; rfl
  have R4 : Hid (∀ w, Below w0.heap.size w0 w → w.cell? ⟨B, 0, none⟩ = some (.string nm) ∧ w.cell? ⟨B, 1, none⟩ = some (.int .i64 (p : Int)) ∧ w.cell? ⟨B, 2, none⟩ = some (.int .i64 (q : Int)) ∧ w.cell? ⟨B, 3, none⟩ = some (.slice ao n c)) := fun w hw => row4 ((hw.block B (lt_of_block n1)).trans n1)
  obtain ⟨c0, -, -, -⟩ := R4.out w0 (Below.refl _ _)
  have u1 := uv_len (n := nm.size) (by omega)
  have u2 := uv_len (n := p) (by omega)
  have u3 := uv_len (n := q) (by omega)
  have u4 := uv_len (n := n) (by omega)
  have nl : nm.data.toList.length = nm.size := by rw [Array.length_toList]; rfl
  have HB := hide B0
  have H := hide h
  have HT := hide ht
  have HN := hide hn
  have K5 := hide k5
  have H6 := hide h6
  have hl2 : n ≤ 2000 := by omega
  clear n1 B0 ht h hn hok k5 h6 k4
  obtain ⟨pre, hpre⟩ : ∃ x, x = [] ++ uv nm.size ++ nm.data.toList ++ uv p ++ uv q ++ uv n := ⟨_, rfl⟩
  have PL : Hid (pre.length ≤ 100) := by
    unfold Hid
    rw [hpre]
    simp only [List.length_append, List.length_nil, nl]
    omega
  rw [TE.out, ← hpre]
  have EP := hide hpre
  clear hpre
  go_enter Tryd.func51, Tryd.ntmps51
  go_upto_region 1 with fail
  rw [← hw0, ← hB]
  clear hw0 hB
  go_wp2_with fail
  refine J0.out.mono ?_
  rintro e w1 ⟨v1, rfl, ho1, hb1⟩
  obtain ⟨-, y1, -, -⟩ := R4.out w1 hb1
  have J1 := hide (put_out p (own_bs ho1) (by omega) (by simp only [List.length_append, List.length_nil, nl]; omega))
  have H1 := hide hb1
  clear ho1 hb1 J0 c0
  go_wp2_with fail
  refine J1.out.mono ?_
  rintro e w2 ⟨v2, rfl, ho2, hb2⟩
  have H2 := hide (below_on H1.out hb2)
  obtain ⟨-, -, y2, -⟩ := R4.out w2 H2.out
  have J2 := hide (put_out q (own_bs ho2) (by omega) (by simp only [List.length_append, List.length_nil, nl]; omega))
  clear ho2 hb2 J1 y1
  go_wp2_with fail
  refine J2.out.mono ?_
  rintro e w3 ⟨v3, rfl, ho3, hb3⟩
  have H3 := hide (below_on H2.out hb3)
  obtain ⟨-, -, -, y3⟩ := R4.out w3 H3.out
  have J3 := hide (put_out n (own_bs ho3) (by omega) (by simp only [List.length_append, List.length_nil, nl]; omega))
  clear ho3 hb3 J2 y2
  go_wp2_with fail
  refine J3.out.mono ?_
  rintro e w4 ⟨v4, rfl, ho4, hb4⟩
  have H4 := hide (below_on H3.out hb4)
  obtain ⟨-, -, -, y4⟩ := R4.out w4 H4.out
  have O4 := hide (own_lower ho4 (below_on HB.out H3.out).size)
  have HW4 := hide (below_on HB.out H4.out)
  clear ho4 hb4 J3 y3
  rw [← EP.out] at O4
  go_wp2_with fail
  go_loopw [28, 3] (fun v u wr => ∃ k : Nat, v = .int .i64 (k : Int) ∧ k ≤ n ∧ Hid (wr.ownsRow W.heap.size 5 1 u (pre ++ codeBy (code.take k)).length (Lib.byteCells (pre ++ codeBy (code.take k)))) ∧ Hid (Below W.heap.size W wr)) (fun v _ _ => n - (intOf v).toNat)
  case atStart => exact ⟨0, rfl, by omega, by unfold Hid; simpa [codeBy] using O4.out, HW4.out⟩
  case round =>
    obtain ⟨k, rfl, hk, hown, hbw⟩ := hrel
    by_cases hlt : k < n
    · have hlt' : k < code.length := by rw [← HN.out]; exact hlt
      obtain ⟨g, o, rfl, -, d0, d1, -, ia⟩ := (H.out.later hbw.out).nth hlt'
      have g1 := World.block_lt_of_cell? wr _ d0
      obtain ⟨w6, hw6⟩ : ∃ X, X = wr.alloc (.cells #[.int .i64 code[k].op, .int .i64 code[k].a] 47) := ⟨_, rfl⟩
      have b6 : Below wr.heap.size wr w6 := hw6 ▸ below_alloc wr _
      have J4 := hide (instrbytes_any code[k] (K5.out _ (List.getElem_mem hlt')) ia w6 ((HT.out.later hbw.out).later b6))
      have IL := insBy_len (K5.out _ (List.getElem_mem hlt')) ia
      have E4 := hide (codeBy_snoc hlt')
      have HX := hide (below_on hbw.out b6)
      have O6 := hide (own_later hown.out b6)
      have CL : Hid ((pre ++ codeBy (code.take k)).length ≤ 50000) := by
        unfold Hid
        have q2 := codeBy_len (l := code.take k) (fun i hi => ⟨K5.out i (List.mem_of_mem_take hi), H6.out i (List.mem_of_mem_take hi)⟩)
        rw [List.length_take] at q2
        have q3 : 20 * min k code.length ≤ 20 * 2000 := Nat.mul_le_mul_left _ (by omega)
        have := PL.out
        rw [List.length_append]
        omega
      unfold insV at J4
      clear b6 ia
      generalize code[k] = x at *
      go_upto_region 8 with fail
      rw [← hw6]
      have y0 : w6.cell? ⟨wr.heap.size, 0, none⟩ = some (.int .i64 x.op) := by rw [hw6, cell_of_row _ _ _ _ 47 (0, 0) (heap_alloc_new wr _)]; rfl
      have y1 : w6.cell? ⟨wr.heap.size, 1, none⟩ = some (.int .i64 x.a) := by rw [hw6, cell_of_row _ _ _ _ 47 (0, 0) (heap_alloc_new wr _)]; rfl
      clear hw6
      go_wp2_with fail
      refine J4.out.mono ?_
      rintro e w7 ⟨v7, rfl, ho7, hb7⟩
      have hpos : 0 < (insBy x).length := by
        unfold insBy
        have : 0 < (uv x.op.toNat).length := Lib.uvarint_pos x.op.toNat
        rw [List.length_append]; omega
      obtain ⟨g7, c7, rfl, hc7, hc8⟩ := own_form ho7 hpos
      have O7 := own_later O6.out hb7
      obtain ⟨ib, hi, hz0, hz1, hz2⟩ := info_parts infoB
      have BC := byteCells_cell ho7
      have HB7 := hide (below_on HX.out hb7)
      have hsz := HB7.out.size
      have hcl := CL.out
      clear hb7 J4 ho7
      go_wp2_with (at_builtin; refine wpList_append_own _ rfl _ _ 80 rfl W.heap.size 5 ib (.int .u8 0) 1 1 Tryd.underlying80 hi hz0 hz1 hz2 rfl (by decide) _ _ _ rfl O7 ⟨g7, 0, none⟩ (insBy x).length c7 (Lib.byteCells (insBy x)) rfl ?c0 BC ?c2 ?c3 ?c4 ?c5 ?_)
      case c0 => rw [Lib.byteCells_length]; omega
      case c2 => exact byteCells_one _
      case c3 => unfold maxLen; omega
      case c4 => omega
      case c5 => omega
      intro v8 w8 ho8 hg8 _
      have el : pre.length + (codeBy (code.take k)).length + (insBy x).length = (pre ++ codeBy (code.take (k + 1))).length := by rw [E4.out]; simp only [List.length_append]; omega
      rw [← Lib.byteCells_append, List.append_assoc, ← E4.out, el] at ho8
      have O8 := hide ho8
      have HB8 : Hid (Below W.heap.size W w8) := HB7.out.grown hg8 (by omega) (fun k hk => (O7.lt k hk).1)
      clear ho8 hg8 O7 BC
      go_wp2_with fail
      go_roundw
      case rel => exact ⟨k + 1, by go_num, by omega, O8.out, HB8.out⟩
      case measure => simp [intOf]; omega
    · obtain rfl : k = n := by omega
      have T2 : Hid (pre ++ codeBy code = pre ++ codeBy (code.take k)) := by unfold Hid; rw [HN.out, List.take_length]
      go_wp2_with fail
      go_ret
      rw [T2.out]
      exact ⟨_, rfl, hown.out, hbw.out⟩
end Go.Proofs.YtklamaibinjcmaaDoor
