/-
  The document's All and State.
-/
import Derived.Test.YtejbdhbphbgckaaDocLives
namespace Go.Proofs.Ytejbdhbphbgckaa
open Go.RowKit
theorem lx_take {n : Nat} {gs fr : List Nat} (ho : Ok n gs fr) {i : Nat} (h : i < gs.length) : ((lvOf gs fr).take (i + 1)).filter nz = ((lvOf gs fr).take i).filter nz ++ (if on gs fr i then [(i, gs.getD i 0)] else []) := by
  have hl : i < (lvOf gs fr).length := by rw [lvOf_len]; exact h
  rw [filter_take_succ hl, lvOf_at gs fr i h]
  have := ho.gen i h
  cases hon : on gs fr i with
  | true =>
    have e : nz (i, gs.getD i 0) = true := by
      simp only [nz, Bool.not_eq_true', Bool.and_eq_false_iff, beq_eq_false_iff_ne]
      right
      omega
    simp only [if_true, e]
  | false => simp [nz]
set_option maxHeartbeats 4000000 in
set_option maxRecDepth 100000 in
theorem dall_any {w : World} {S : Nat → Prop} {g n : Nat} {gs fr : List Nat} (h : Dl w S g n gs fr) :
    Calls Try.prog 21 #[.pointer (some ⟨g, 0, none⟩)] w fun e w' => ∃ v, e = .returned v ∧ w'.ownsRow w.heap.size 41 2 v ((lvOf gs fr).filter nz).length (ec ((lvOf gs fr).filter nz)) ∧ Below w.heap.size w w' := by
  obtain ⟨i0, hi, hz0, hz1, hz2⟩ := info_parts info41
  obtain ⟨⟨vg, vo, vf, hp, _⟩, ho⟩ := h
  have hlen : gs.length ≤ 1000000 := by have := ho.2.2.1; have := ho.2.1; omega
  obtain ⟨aog, cg, rfl⟩ := own_len hp.2.1
  obtain ⟨aoo, co, rfl⟩ := own_len hp.2.2.1
  have CL : Hid (∀ W, Below w.heap.size w W → W.cell? ⟨g, 1, none⟩ = some (.slice aog gs.length cg) ∧ W.cell? ⟨g, 2, none⟩ = some (.slice aoo gs.length co)) := fun W hW => by
    have := (hp.later hW).cell
    rw [hsOf_len, osOf_len] at this
    exact ⟨this.2.1, this.2.2.1⟩
  have HP := hide hp
  have HO := hide ho
  clear hp ho
  go_enter Try.func21, Try.ntmps21
  go_wp2_with fail
  go_loopw [3, 4] (fun v3 v4 wr => ∃ i : Nat, i ≤ gs.length ∧ v4 = .int .i64 (i : Int) ∧ Hid (Below w.heap.size w wr) ∧ Hid (wr.ownsRow w.heap.size 41 2 v3 (((lvOf gs fr).take i).filter nz).length (ec (((lvOf gs fr).take i).filter nz)))) (fun _ v4 _ => gs.length - (intOf v4).toNat)
  case atStart => exact ⟨0, Nat.zero_le _, rfl, Below.refl _ _, World.ownsRow_nil _ _ _ _⟩
  case round =>
    obtain ⟨i, hil, rfl, HB, HR⟩ := hrel
    obtain ⟨c1, c2⟩ := CL.out wr HB.out
    by_cases hlt : i < gs.length
    · have t1 : (i : Int) < (gs.length : Int) := by omega
      have hP := HP.out.later HB.out
      obtain ⟨gg, cg', ee, -, -⟩ := own_form hP.2.1 (by rw [hsOf_len]; omega)
      simp only [Value.slice.injEq] at ee
      obtain ⟨rfl, -, rfl⟩ := ee
      obtain ⟨go, co', ee, -, -⟩ := own_form hP.2.2.1 (by rw [osOf_len]; omega)
      simp only [Value.slice.injEq] at ee
      obtain ⟨rfl, -, rfl⟩ := ee
      have e1 := own_int hP.2.1 i (by rw [hsOf_len]; exact hlt)
      have e2 := own_bool hP.2.2.1 i (by rw [osOf_len]; exact hlt)
      rw [hsOf_at gs i hlt] at e1
      rw [osOf_at gs fr i hlt] at e2
      have HS := hide (lx_take HO.out hlt)
      have hfl : (((lvOf gs fr).take i).filter nz).length ≤ 1000000 := Nat.le_trans (List.length_filter_le _ _) (by rw [List.length_take]; omega)
      have hsz := HB.out.size
      cases hon : on gs fr i with
      | false =>
        rw [hon] at e2 HS
        simp only [Bool.false_eq_true, if_false, List.append_nil] at HS
        clear hP hon e1
        go_wp2_with fail
        go_roundw
        case rel => exact ⟨i + 1, by omega, by go_num, HB, by rw [HS.out]; exact HR⟩
        case measure => simp [intOf]; omega
      | true =>
        have hle := on_le hon
        rw [hon] at e2 HS
        rw [Nat.min_eq_left hle] at e1
        simp only [if_true] at HS
        generalize gs.getD i 0 = y at *
        generalize ((lvOf gs fr).take i).filter nz = L at *
        obtain ⟨ao3, c3, rfl⟩ := own_len HR.out
        have K : Hid (∀ (v' : Value) (w' : World), w'.ownsRow w.heap.size 41 2 v' (L.length + 1) (ec L ++ [.int .i64 (i : Int), .int .i64 (y : Int)]) → (wr.alloc (.cells #[.int .i64 (i : Int), .int .i64 (y : Int)] 41)).grownBy w' (Value.slice ao3 L.length c3).ownBlock → Below w.heap.size w w' ∧ w'.ownsRow w.heap.size 41 2 v' (((lvOf gs fr).take (i + 1)).filter nz).length (ec (((lvOf gs fr).take (i + 1)).filter nz))) := fun v' w' h1 h2 => by
          refine ⟨(below_on HB.out (below_alloc wr _)).grown h2 (by simp; omega) (fun k e => (HR.out.lt k e).1), ?_⟩
          rw [HS.out, ec_append]
          simpa [ec] using h1
        clear hP hon hle HS
        go_wp2_with (at_builtin; refine wpList_append_lies _ rfl _ _ 47 rfl w.heap.size 41 i0 (.agg #[.int .i64 0, .int .i64 0]) 2 16 Try.underlying47 hi hz0 hz1 hz2 rfl (by decide) _ _ _ rfl (HR.out.alloc _) ⟨wr.heap.size, 0, none⟩ 1 1 [.int .i64 (i : Int), .int .i64 (y : Int)] rfl rfl ?d1 ?d2 (by omega) (by unfold maxLen; omega) (by omega) ?d5 _ rfl ?_)
        case d1 =>
          intro j u hj
          match j, hj with
          | 0, hj => simp at hj; subst hj; simp [Addr.add]
          | 1, hj => simp at hj; subst hj; simp [Addr.add]
        case d2 =>
          intro u hu
          simp at hu
          rcases hu with rfl | rfl <;> rfl
        case d5 => simp; omega
        intro g9 c9 w9 h1 h2 _ _
        obtain ⟨h3, h4⟩ := K.out _ _ h1 h2
        have H3 := hide h3
        have H4 := hide h4
        clear h1 h2 h3 h4 K
        go_wp2_with fail
        go_roundw
        case rel => exact ⟨i + 1, by omega, by go_num, H3, H4⟩
        case measure => simp [intOf]; omega
    · obtain rfl : i = gs.length := by omega
      have hr := HR.out
      rw [List.take_of_length_le (by rw [lvOf_len]; omega)] at hr
      have HR1 := hide hr
      have t1 : ¬ (gs.length : Int) < (gs.length : Int) := by omega
      clear hr HR
      go_wp2_with fail
      go_ret
      exact ⟨_, rfl, HR1.out, HB.out⟩
theorem wpList_append_fw (w : World) {ops : Array Oper} {rest : List Oper} {o : Oper} {a : Act} {Q : Exit → Act → World → Prop} (hgd : o.guard = none) (s x : Operand)
    (ho : o.op = .call { callee := .builtin .append, args := #[s, x], argTypes := #[33, 33] })
    (base : Nat) (v vb : Value) (xs l : List Nat) (hs : a.eval s = v) (hown : w.ownsRow base 3 1 v xs.length (ic xs)) (hx : a.eval x = vb) (hb : Fw w vb l) (hl : xs.length + l.length ≤ 1000000) (hbase : base ≤ w.heap.size)
    (h : ∀ v' w', w'.ownsRow base 3 1 v' (xs ++ l).length (ic (xs ++ l)) → w.grownBy w' v.ownBlock → (v'.ownBlock = v.ownBlock ∨ v'.ownBlock = some w.heap.size) → wpList Try.prog ops Q rest (a.put o.dst v') w') : wpList Try.prog ops Q (o :: rest) a w :=
  wpList_plain hgd fun _ hK => by
    obtain ⟨v', w', hr, h2, h3, h4⟩ := run_append_fw base o.type hown hb hl hbase
    unfold Oper.wp execOp
    simp only [ho, resolve, invoke, builtin, Sem.run_bind, Sem.run_pure, Result.andThen_ok, List.map_toArray, List.map_cons, List.map_nil, hs, hx, hr]
    exact hK _ _ (h v' w' h2 h3 h4)
theorem not_on {n : Nat} {gs fr : List Nat} (ho : Ok n gs fr) {i : Nat} (h : i < gs.length) (hon : on gs fr i = false) (hf : i ∉ fr) : gs.getD i 0 = 1000001 := by
  have := ho.gen i h
  simp only [on, Bool.and_eq_false_iff, decide_eq_false_iff_not, Bool.not_eq_false', List.contains_eq_mem, decide_eq_true_eq] at hon
  rcases hon with h | h
  · omega
  · exact absurd h hf
theorem take_snoc {gs : List Nat} {i : Nat} (h : i < gs.length) : gs.take (i + 1) = gs.take i ++ [gs.getD i 0] := by
  rw [List.take_add_one, List.getElem?_eq_getElem h]
  simp [h]
set_option maxHeartbeats 4000000 in
set_option maxRecDepth 100000 in
theorem dstate_any {w : World} {S : Nat → Prop} {g n : Nat} {gs fr : List Nat} (h : Dl w S g n gs fr) :
    Calls Try.prog 26 #[.pointer (some ⟨g, 0, none⟩)] w fun e w' => ∃ v1 v2, e = .returned (.tuple #[v1, v2]) ∧ w'.ownsRow w.heap.size 3 1 v1 gs.length (ic gs) ∧ w'.ownsRow w.heap.size 3 1 v2 fr.length (ic fr) ∧ Ap v1 v2 ∧ Below w.heap.size w w' := by
  obtain ⟨i0, hi, hz0, hz1, hz2⟩ := info_parts info3
  obtain ⟨⟨vg, vo, vf, hp, _⟩, ho⟩ := h
  have hlen : gs.length ≤ 1000000 := by have := ho.2.2.1; have := ho.2.1; omega
  have hfl : fr.length ≤ 1000000 := by have := ho.free_len; omega
  obtain ⟨aog, cg, rfl⟩ := own_len hp.2.1
  obtain ⟨aoo, co, rfl⟩ := own_len hp.2.2.1
  have CL : Hid (∀ W, Below w.heap.size w W → W.cell? ⟨g, 1, none⟩ = some (.slice aog gs.length cg) ∧ W.cell? ⟨g, 2, none⟩ = some (.slice aoo gs.length co) ∧ W.cell? ⟨g, 3, none⟩ = some vf) := fun W hW => by
    have := (hp.later hW).cell
    rw [hsOf_len, osOf_len] at this
    exact ⟨this.2.1, this.2.2.1, this.2.2.2⟩
  have HP := hide hp
  have HO := hide ho
  clear hp ho
  go_enter Try.func26, Try.ntmps26
  go_wp2_with fail
  go_loopw [4, 6] (fun v4 v6 wr => ∃ i : Nat, i ≤ gs.length ∧ v6 = .int .i64 (i : Int) ∧ Hid (Below w.heap.size w wr) ∧ Hid (wr.ownsRow w.heap.size 3 1 v4 (gs.take i).length (ic (gs.take i)))) (fun _ v6 _ => gs.length - (intOf v6).toNat)
  case atStart => exact ⟨0, Nat.zero_le _, rfl, Below.refl _ _, World.ownsRow_nil _ _ _ _⟩
  case round =>
    obtain ⟨i, hil, rfl, HB, HR⟩ := hrel
    obtain ⟨c1, c2, c3⟩ := CL.out wr HB.out
    by_cases hlt : i < gs.length
    · have t1 : (i : Int) < (gs.length : Int) := by omega
      have hP := HP.out.later HB.out
      have HF := hide (dfree_any i hP)
      obtain ⟨gg, cg', ee, -, -⟩ := own_form hP.2.1 (by rw [hsOf_len]; omega)
      simp only [Value.slice.injEq] at ee
      obtain ⟨rfl, -, rfl⟩ := ee
      obtain ⟨go, co', ee, -, -⟩ := own_form hP.2.2.1 (by rw [osOf_len]; omega)
      simp only [Value.slice.injEq] at ee
      obtain ⟨rfl, -, rfl⟩ := ee
      have e1 := own_int hP.2.1 i (by rw [hsOf_len]; exact hlt)
      have e2 := own_bool hP.2.2.1 i (by rw [osOf_len]; exact hlt)
      rw [hsOf_at gs i hlt] at e1
      rw [osOf_at gs fr i hlt] at e2
      have HS := hide (take_snoc hlt)
      have hm : (gs.take i).length = i := by rw [List.length_take]; omega
      have hsz := HB.out.size
      have hcase : (on gs fr i = true ∧ gs.getD i 0 ≤ 1000000) ∨ (on gs fr i = false ∧ i ∈ fr ∧ gs.getD i 0 ≤ 1000000) ∨ (on gs fr i = false ∧ i ∉ fr ∧ gs.getD i 0 = 1000001) := by
        cases hon : on gs fr i with
        | true => exact .inl ⟨rfl, on_le hon⟩
        | false =>
          by_cases hf : i ∈ fr
          · have := HO.out.2.2.2.2.2 i hf
            exact .inr (.inl ⟨rfl, hf, by omega⟩)
          · exact .inr (.inr ⟨rfl, hf, not_on HO.out hlt hon hf⟩)
      obtain ⟨y, hy⟩ : ∃ y, y = gs.getD i 0 := ⟨_, rfl⟩
      rw [← hy] at e1 HS hcase
      obtain ⟨ao4, c4, hv4⟩ := own_len HR.out
      rw [hm] at hv4
      subst hv4
      have K : Hid (∀ (v' : Value) (w' : World), w'.ownsRow w.heap.size 3 1 v' (i + 1) (ic (gs.take i) ++ [.int .i64 (y : Int)]) → (wr.alloc (.cells #[.int .i64 (y : Int)] 3)).grownBy w' (Value.slice ao4 i c4).ownBlock → Below w.heap.size w w' ∧ w'.ownsRow w.heap.size 3 1 v' (gs.take (i + 1)).length (ic (gs.take (i + 1)))) := fun v' w' h1 h2 => by
        refine ⟨(below_on HB.out (below_alloc wr _)).grown h2 (by simp; omega) (fun k e => (HR.out.lt k e).1), ?_⟩
        rw [HS.out, ic_append, List.length_append, hm]
        exact h1
      have HRA : Hid ((wr.alloc (.cells #[.int .i64 (y : Int)] 3)).ownsRow w.heap.size 3 1 (.slice ao4 i c4) i (ic (gs.take i))) := by
        have := HR.out.alloc (.cells #[.int .i64 (y : Int)] 3)
        rw [hm] at this
        exact this
      clear hP HS hy HR hm
      rcases hcase with ⟨hon, hle⟩ | ⟨hon, hf, hle⟩ | ⟨hon, hf, hle⟩
      · rw [hon] at e2
        rw [Nat.min_eq_left hle] at e1
        clear hon
        go_wp2_with fail
        refine HF.out.mono ?_
        rintro e wq ⟨rfl, rfl⟩
        go_wp2_with (at_builtin; refine wpList_append_lies _ rfl _ _ 33 rfl w.heap.size 3 i0 (.int .i64 0) 1 8 Try.underlying33 hi hz0 hz1 hz2 rfl (by decide) _ _ _ rfl HRA.out ⟨wq.heap.size, 0, none⟩ 1 1 [.int .i64 (y : Int)] rfl rfl ?d1 ?d2 (by omega) (by unfold maxLen; omega) (by omega) ?d5 _ rfl ?_)
        case d1 =>
          intro j u hj
          match j, hj with
          | 0, hj => simp at hj; subst hj; simp [Addr.add]
        case d2 =>
          intro u hu
          simp at hu
          subst hu
          rfl
        case d5 => simp; omega
        intro g9 c9 w9 h1 h2 _ _
        obtain ⟨h3, h4⟩ := K.out _ _ h1 h2
        have H3 := hide h3
        have H4 := hide h4
        clear h1 h2 h3 h4 K
        go_wp2_with fail
        go_roundw
        case rel => exact ⟨i + 1, by omega, by go_num, H3, H4⟩
        case measure => simp [intOf]; omega
      · rw [hon] at e2
        rw [Nat.min_eq_left hle] at e1
        have hd : decide (i ∈ fr) = true := by simp [hf]
        rw [hd] at HF
        clear hon hf hd
        go_wp2_with fail
        refine HF.out.mono ?_
        rintro e wq ⟨rfl, rfl⟩
        go_wp2_with (at_builtin; refine wpList_append_lies _ rfl _ _ 33 rfl w.heap.size 3 i0 (.int .i64 0) 1 8 Try.underlying33 hi hz0 hz1 hz2 rfl (by decide) _ _ _ rfl HRA.out ⟨wq.heap.size, 0, none⟩ 1 1 [.int .i64 (y : Int)] rfl rfl ?f1 ?f2 (by omega) (by unfold maxLen; omega) (by omega) ?f5 _ rfl ?_)
        case f1 =>
          intro j u hj
          match j, hj with
          | 0, hj => simp at hj; subst hj; simp [Addr.add]
        case f2 =>
          intro u hu
          simp at hu
          subst hu
          rfl
        case f5 => simp; omega
        intro g9 c9 w9 h1 h2 _ _
        obtain ⟨h3, h4⟩ := K.out _ _ h1 h2
        have H3 := hide h3
        have H4 := hide h4
        clear h1 h2 h3 h4 K
        go_wp2_with fail
        go_roundw
        case rel => exact ⟨i + 1, by omega, by go_num, H3, H4⟩
        case measure => simp [intOf]; omega
      · rw [hon] at e2
        subst hle
        have hd : decide (i ∈ fr) = false := by simp [hf]
        rw [hd] at HF
        clear hon hf hd
        go_wp2_with fail
        refine HF.out.mono ?_
        rintro e wq ⟨rfl, rfl⟩
        go_wp2_with (at_builtin; refine wpList_append_lies _ rfl _ _ 33 rfl w.heap.size 3 i0 (.int .i64 0) 1 8 Try.underlying33 hi hz0 hz1 hz2 rfl (by decide) _ _ _ rfl HRA.out ⟨wq.heap.size, 0, none⟩ 1 1 [.int .i64 1000001] rfl rfl ?h1 ?h2 (by omega) (by unfold maxLen; omega) (by omega) ?h5 _ rfl ?_)
        case h1 =>
          intro j u hj
          match j, hj with
          | 0, hj => simp at hj; subst hj; simp [Addr.add]
        case h2 =>
          intro u hu
          simp at hu
          subst hu
          rfl
        case h5 => simp; omega
        intro g9 c9 w9 h1 h2 _ _
        obtain ⟨h3, h4⟩ := K.out _ _ h1 h2
        have H3 := hide h3
        have H4 := hide h4
        clear h1 h2 h3 h4 K
        go_wp2_with fail
        go_roundw
        case rel => exact ⟨i + 1, by omega, by go_num, H3, H4⟩
        case measure => simp [intOf]; omega
    · obtain rfl : i = gs.length := by omega
      have hr := HR.out
      rw [List.take_length] at hr
      obtain ⟨ao4, c4, rfl⟩ := own_len hr
      have HR1 := hide hr
      have HF := hide (HP.out.later HB.out).2.2.2.1
      have hsz := HB.out.size
      have t1 : ¬ (gs.length : Int) < (gs.length : Int) := by omega
      clear hr HR
      go_wp2_with (at_builtin; refine wpList_append_fw _ rfl _ _ rfl w.heap.size _ _ [] fr rfl (World.ownsRow_nil _ _ _ _) rfl HF.out (by simp; omega) hsz ?_)
      intro v' w9 q1 q2 q3
      have HQ1 := hide q1
      have HQ2 := hide (own_kept HR1.out q2 (fun k e1 e2 => by simp [Value.ownBlock] at e2))
      have HQ3 := hide (HB.out.grown q2 hsz (fun k e => by simp [Value.ownBlock] at e))
      have HQ4 : Hid (Ap (.slice ao4 gs.length c4) v') := fun k e1 e2 => by
        have h1 := (HR1.out.lt k e1).2
        rcases q3 with h | h
        · rw [h] at e2
          simp [Value.ownBlock] at e2
        · rw [h] at e2
          have := Option.some.inj e2
          omega
      clear q1 q2 q3 HR1
      go_wp2_with fail
      go_ret2
      exact ⟨_, _, rfl, HQ2.out, HQ1.out, HQ4.out, HQ3.out⟩
end Go.Proofs.Ytejbdhbphbgckaa
