/-
  CodeWords.
-/
import Derived.Test.YtpolajoephjdhaaDoorWdC
import Derived.Test.YtpolajoephjdhaaDoorRfB
namespace Go.Proofs.YtpolajoephjdhaaDoor
open Go.RowKit
set_option maxRecDepth 100000
/-- The routines, the first k written over. -/
def wrL (fs : List Rt) (k : Nat) : List Rt := fs.mapIdx fun i r => if i < k then ⟨r.name, ((i + 1 : Nat) : Int), r.lo, r.code⟩ else r
theorem wrL_zero (fs : List Rt) : wrL fs 0 = fs := by
  apply List.ext_getElem
  · simp [wrL]
  · intro i h1 h2
    simp [wrL]
theorem wrL_len (fs : List Rt) (k : Nat) : (wrL fs k).length = fs.length := by simp [wrL]
theorem wrL_step {fs : List Rt} {k : Nat} {lf : List (Rt × Value)} {q : Rt × Value} (h : lf.map Prod.fst = wrL fs k) (hq : lf[k]? = some q) : (lf.set k (setPa q ((k + 1 : Nat) : Int))).map Prod.fst = wrL fs (k + 1) := by
  have hl : lf.length = fs.length := by have := congrArg List.length h; simpa [wrL] using this
  have hk := (List.getElem?_eq_some_iff.1 hq).1
  have hk2 := (List.getElem?_eq_some_iff.1 hq).2
  apply List.ext_getElem
  · simp [wrL, hl]
  · intro i h1 h2
    have hi : i < lf.length := by simpa using h1
    have e : (lf[i]).1 = (wrL fs k)[i]'(by rw [wrL_len]; omega) := by
      have : (lf.map Prod.fst)[i]'(by simpa using hi) = (wrL fs k)[i]'(by rw [wrL_len]; omega) := by simp only [h]
      simpa using this
    simp only [List.getElem_map, List.getElem_set]
    by_cases hik : k = i
    · subst hik
      rw [if_pos rfl]
      rw [hk2] at e
      simp only [wrL, List.getElem_mapIdx] at e ⊢
      rw [if_neg (Nat.lt_irrefl _)] at e
      rw [if_pos (by omega), ← e]
      rfl
    · rw [if_neg hik, e]
      simp only [wrL, List.getElem_mapIdx]
      by_cases hlt : i < k
      · rw [if_pos hlt, if_pos (by omega)]
      · rw [if_neg hlt, if_neg (by omega)]
theorem RtsV.set {Q : Nat → Prop} {W : World} {lf : List (Rt × Value)} {q : Rt × Value} {k : Nat} {x : Int} (h : RtsV Q W lf) (hq : lf[k]? = some q) (hx : I6 x) : RtsV Q W (lf.set k (setPa q x)) := fun p hp => by
  rcases List.mem_or_eq_of_mem_set hp with hp | rfl
  · exact h p hp
  · obtain ⟨-, h2, h3⟩ := h q (List.mem_of_getElem? hq)
    exact ⟨hx, h2, h3⟩
set_option maxHeartbeats 4000000 in
theorem words_any {Q : Nat → Prop} {W : World} {v : Value} {fs : List Rt} (h : Rts Q W v fs) (hnil : NilOr v) (hn : fs.length * 56 ≤ 140737488355328) (hQ : ∀ j, Q j → j < W.heap.size) (hk : Kd W) (op : Int) (s : ByteArray) (i : Ins) : Calls Tryd.prog 3 #[.int .i64 op, .string s, insV i, v] W fun e w' => e = .returned (.bool true) ∧ Below W.heap.size W w' := by
  obtain ⟨w0, hw0⟩ : ∃ X, X = W.alloc (.cells #[.int .i64 i.op, .int .i64 i.a] 23) := ⟨_, rfl⟩
  have B0 : Below W.heap.size W w0 := hw0 ▸ below_alloc W _
  have n0 : w0.heap[W.heap.size]? = some (.cells #[.int .i64 i.op, .int .i64 i.a] 23 (0, 0)) := by rw [hw0]; exact heap_alloc_new W _
  obtain ⟨B, hB⟩ : ∃ B, B = W.heap.size := ⟨_, rfl⟩
  rw [← hB] at n0
  have H0 := hide (h.later B0)
  have K0 := hk.later B0
  have N0 := hide n0
  have s0 := B0.size
  have Y0 := hide B0
  obtain ⟨ao, c, rfl, -⟩ := h
  unfold insV
  have HNIL := hide hnil
  clear n0 hk B0 hnil
  go_enter Tryd.func3, Tryd.ntmps3
  go_upto_region 1 with fail
  rw [← hw0, ← hB]
  clear hw0 hB
  go_wp2_with fail
  refine (shown_any w0 K0).mono ?_
  rintro e w1 ⟨rfl, hb1, K1⟩
  have H1 := hide (H0.out.later hb1)
  have YW := hide (below_on Y0.out hb1)
  have N1 := hide ((hb1.block B (lt_of_block N0.out)).trans N0.out)
  have hQ1 : Hid (∀ j, Q j → j < w1.heap.size) := fun j e => Nat.lt_of_lt_of_le (hQ j e) (Nat.le_trans s0 hb1.size)
  have AT : Hid (∀ w', Below w1.heap.size w1 w' → w'.cell? ⟨B, 0, none⟩ = some (.int .i64 i.op) ∧ w'.cell? ⟨B, 1, none⟩ = some (.int .i64 i.a)) := fun w' hb => row2 ((hb.block B (lt_of_block N1.out)).trans N1.out)
  have KK : Hid (∀ w', Below w1.heap.size w1 w' → Kd w') := fun w' hb => K1.later hb
  have EF : Hid (∀ w' v' l Q', Below w1.heap.size w1 w' → Rts Q' w' v' l → Calls Tryd.prog 6 #[.agg #[.int .i64 i.op, .int .i64 i.a], v'] w' fun e w'' => e = .returned (.tuple #[.int .i64 (takE l i), .int .i64 (putE i)]) ∧ Below w'.heap.size w' w'') := fun w' v' l Q' hb hr => effect_any hr (KK.out w' hb).1 i
  have DF : Hid (∀ w' v' l Q', Rts Q' w' v' l → Calls Tryd.prog 7 #[.agg #[.int .i64 i.op, .int .i64 i.a], v'] w' fun e w'' => e = .returned (.tuple #[.int .i64 (takE l i), .int .i64 (putE i)]) ∧ Below w'.heap.size w' w'') := fun w' v' l Q' hr => deffect_any hr i
  clear hb1 H0 K0 N0 K1 hQ s0 Y0
  have HA := hide (H1.out.later (below_alloc w1 (.cells #[] 30)))
  go_wp2_with (at_builtin; refine wpList_append_rts rfl _ _ rfl w1.heap.size _ rfl (own_lit w1) _ rfl fs HA.out HNIL.out (by omega) (by simp) ?_)
  intro v2 w2 lf e2 rv2 o2 g2
  have Y2 : Hid (Below w1.heap.size w1 w2) := (below_alloc w1 (.cells #[] 30)).grown g2 (by simp) (fun k hk => by simp [Value.ownBlock] at hk; omega)
  have hlf : lf.length = fs.length := by rw [← e2, List.length_map]
  have HLF := hide hlf
  obtain ⟨a2, c2, rfl⟩ := own_len o2
  have R2 : Hid (RtsV Q w2 lf) := rv2.mv ((Mv.refl _ (fun j => j = w1.heap.size)).grown g2 (fun k _ e => by simp [Value.ownBlock] at e; exact e.symm)) (fun j e e' => by have := hQ1.out j e; omega)
  have LR := hide (own_rts o2 R2.out (by unfold maxLen; omega))
  rw [e2] at LR
  have O2 := hide o2
  have E2 := hide e2
  clear rv2 g2 o2 HA e2 hlf
  obtain ⟨x0, x1⟩ := AT.out _ Y2.out
  go_upto_region 3 with fail
  go_wp2_with fail
  refine (EF.out _ _ _ _ Y2.out LR.out).mono ?_
  rintro e w3 ⟨rfl, hb3⟩
  have Y3 := hide (below_on Y2.out hb3)
  have O3 := hide (own_later O2.out hb3)
  have R3 := hide (R2.out.later hb3)
  have H3 := hide (H1.out.later Y3.out)
  clear hb3 O2 R2 Y2 x0 x1 LR
  obtain ⟨x0, x1⟩ := AT.out _ Y3.out
  go_wp2_with fail
  refine (DF.out _ _ _ _ H3.out).mono ?_
  rintro e w4 ⟨rfl, hb4⟩
  have Y4 := hide (below_on Y3.out hb4)
  have O4 := hide (own_later O3.out hb4)
  have R4 := hide (R3.out.later hb4)
  clear hb4 O3 R3 Y3 H3 x0 x1
  have E4 : Hid (lf.map Prod.fst = wrL fs 0) := by unfold Hid; rw [wrL_zero]; exact E2.out
  generalize takE fs i = te at *
  generalize putE i = pe at *
  obtain ⟨n, hn'⟩ : ∃ n, n = lf.length := ⟨_, rfl⟩
  rw [← hn'] at O4 HLF ⊢
  have HN := hide hn'
  have hn2 : n * 56 ≤ 140737488355328 := by have := HLF.out; omega
  clear hn' E2 hn
  go_wp2_with fail
  go_loopw [15] (fun u wr => ∃ (k : Nat) (l : List (Rt × Value)), u = .int .i64 (k : Int) ∧ k ≤ n ∧ Hid (Below w1.heap.size w1 wr) ∧ Hid (l.length = n) ∧ Hid (wr.ownsRow w1.heap.size 30 4 (.slice a2 n c2) n (rtsC l)) ∧ Hid (RtsV Q wr l) ∧ Hid (l.map Prod.fst = wrL fs k)) (fun u _ => n - (intOf u).toNat)
  case atStart => exact ⟨0, lf, rfl, by omega, Y4.out, HN.out.symm, O4.out, R4.out, E4.out⟩
  case round =>
    obtain ⟨k, l, rfl, hkk, hy, hl, ho, hr, he⟩ := hrel
    by_cases hlt : k < n
    · obtain ⟨g, c', e, hc⟩ := own_some ho.out (by omega)
      injection e with e1 e2 e3
      subst e1 e3
      obtain ⟨q, hq⟩ : ∃ q, l[k]? = some q := ⟨_, List.getElem?_eq_getElem (by have := hl.out; omega)⟩
      have hgB := (ho.out.lt g rfl).1
      have hglt := (ho.out.lt g rfl).2
      have d1 := hc (k * 4 + 1) (by omega)
      have hat := (rtsC_at l k (by have := hl.out; omega)).2.1
      rw [hat] at d1
      have z := ho.out.frozenAt (k * 4 + 1)
      have st := (ho.out.stored (k * 4 + 1) (.int .i64 ((k : Int) + 1))).1
      have ex : ((k + 1 : Nat) : Int) = (k : Int) + 1 := by omega
      rw [← ex, ← rtsC_set l k q hq, ex] at st
      have ST := hide st
      have m := (Mv.refl wr (fun j => j = g)).set (g := g) rfl (k * 4 + 1) (.int .i64 ((k : Int) + 1))
      have NX : Hid (Below w1.heap.size w1 (wr.setCell ⟨g, k * 4 + 1, none⟩ (.int .i64 ((k : Int) + 1)))) := hy.out.trans (m.below hy.out.size (fun j e => by omega))
      have RX : Hid (RtsV Q (wr.setCell ⟨g, k * 4 + 1, none⟩ (.int .i64 ((k : Int) + 1))) (l.set k (setPa q ((k + 1 : Nat) : Int)))) := (hr.out.set hq ⟨by omega, by omega⟩).mv m (fun j e e' => by have := hQ1.out j e; omega)
      have EX := hide (wrL_step he.out hq)
      have HQ := hide hq
      clear hc hat st ex m hq e2
      go_wp2_with fail
      refine ⟨⟨k + 1, l.set k (setPa q ((k + 1 : Nat) : Int)), by go_num, by omega, NX.out, by unfold Hid; rw [List.length_set]; exact hl.out, ?_, RX.out, EX.out⟩, by simp [intOf]; omega⟩
      exact ST.out
    · obtain rfl : k = n := by omega
      have L5 := hide (own_rts (Q := Q) (lf := l) (B := w1.heap.size) (v := .slice a2 k c2) (W := wr) (by rw [hl.out]; exact ho.out) hr.out (by rw [hl.out]; unfold maxLen; omega))
      rw [he.out] at L5
      have NL : Hid (NilOr (.slice a2 k c2)) := fun n' c' e => by
        injection e with e1 e2 e3
        subst e1 e2 e3
        rcases ho.out.2 with ⟨h5, h6⟩ | ⟨g, cap, cur, h5, -⟩
        · injection h5 with _ h7 h8
          exact ⟨h7, h8⟩
        · injection h5 with h7
          cases h7
      obtain ⟨x0, x1⟩ := AT.out _ hy.out
      have Y5 := hide hy.out
      have LL : Hid ((wrL fs k).length = k) := by unfold Hid; rw [wrL_len, ← HLF.out]
      clear ho hr he hl R4 E4 O4 Y4 hy
      go_wp2_with fail
      refine (EF.out _ _ _ _ Y5.out L5.out).mono ?_
      rintro e w6 ⟨rfl, hb6⟩
      have Y6 := hide (below_on Y5.out hb6)
      have L6 := hide (L5.out.later hb6)
      have HWR := hide hb6.size
      clear hb6 Y5 L5 x0 x1
      obtain ⟨x0, x1⟩ := AT.out _ Y6.out
      have DG := hide (DF.out)
      generalize hfs' : wrL fs k = fs' at *
      clear hfs'
      go_upto_region 10 with fail
      have HA := hide ((L6.out.later (below_drew w6)).later (below_alloc w6.drew (.cells #[] 30)))
      have AL : Hid (∀ o, (w6.drew.alloc o).cell? ⟨B, 0, none⟩ = some (.int .i64 i.op) ∧ (w6.drew.alloc o).cell? ⟨B, 1, none⟩ = some (.int .i64 i.a)) := fun o => AT.out _ (below_on (below_on Y6.out (below_drew w6)) (below_alloc _ o))
      have hW6 : wr.heap.size ≤ w6.heap.size := HWR.out
      have SZ : Hid (w1.heap.size ≤ (w6.drew.alloc (.cells #[] 30)).heap.size) := by unfold Hid; simp; have := Y6.out.size; omega
      have hk2 : fs'.length * 56 ≤ 140737488355328 := by have := LL.out; omega
      refine wp_region_noPanic ?_
      refine wp_region_held_drew (S := fun Wq => Wq.cell? ⟨B, 0, none⟩ = some (.int .i64 i.op) ∧ Wq.cell? ⟨B, 1, none⟩ = some (.int .i64 i.a)) (by kernel_rfl) (⟨x0, x1⟩) (fun hHeld => ?_)
      refine' wpAnyH_take (i := 0) (oi := { dst := some 55, op := Go.Op.load 23 (Go.Operand.tmp 6), type := 23, pos := "code.go:48", after := #[], guard := none }) (v := _) rfl (by kernel_rfl) (by kernel_rfl) (by kernel_rfl) (fun _ _ _ h => h) (Or.inl ⟨by rfl, ?hyr1_0⟩) (by assumption) ?rer1_0
      case hyr1_0 => (intro W hSw; (try dsimp only at hSw); go_simp; try with_reducible rfl)
      try simp only [Act.put, List.setIfInBounds_toArray, List.set_cons_zero, List.set_cons_succ]
      refine' wpAnyH_take (i := 2) (oi := { dst := some 57, op := Go.Op.move (Go.Operand.tmp 10), type := 24, pos := "code.go:48", after := #[], guard := none }) (v := _) rfl (by kernel_rfl) (by kernel_rfl) (by kernel_rfl) (fun _ _ _ h => h) (Or.inl ⟨by rfl, ?hyr1_2⟩) (by assumption) ?rer1_2
      case hyr1_2 => (intro W hSw; (try dsimp only at hSw); go_simp; try with_reducible rfl)
      try simp only [Act.put, List.setIfInBounds_toArray, List.set_cons_zero, List.set_cons_succ]
      refine wpAnyH_ready (rs := [1]) (by kernel_rfl) (by simp) ?_
      refine AllReadyH.cons (o := { dst := some 56, op := Go.Op.buildSlice 24 0 #[], type := 24, pos := "code.go:48", after := #[], guard := none }) rfl (fun K hK => ?_) AllReadyH.nil
      clear hHeld
      go_simp
      refine hK.out _ _ (AL.out _) (fun hHeld => ?_)
      clear hK K
      try simp only [Act.put, List.setIfInBounds_toArray, List.set_cons_zero, List.set_cons_succ]
      refine wpAnyH_ready (rs := [3]) (by kernel_rfl) (by simp) ?_
      refine AllReadyH.cons (o := { dst := some 58, op := Go.Op.call { callee := Go.Callee.builtin Go.Builtin.append, args := #[Go.Operand.tmp 56, Go.Operand.tmp 57], argTypes := #[24, 24] }, type := 24, pos := "code.go:48", after := #[{ on := 1, ground := Go.Ground.data }, { on := 2, ground := Go.Ground.data }], guard := none }) rfl (fun K hK => ?_) AllReadyH.nil
      clear hHeld
      refine step_append_rts rfl (.tmp 56) (.tmp 57) rfl w6.heap.size (.slice (some ⟨w6.heap.size, 0, none⟩) 0 0) (by simp [Act.eval]) (own_lit w6.drew) (.slice a2 k c2) (by simp [Act.eval]) fs' HA.out NL.out hk2 (by simp) ?_
      intro v7 w7 lf7 e7 rv7 o7 g7
      have Y7 : Hid (Below w1.heap.size w1 w7) := (below_on (below_on Y6.out (below_drew w6)) (below_alloc w6.drew (.cells #[] 30))).grown g7 SZ.out (fun k hk => by simp [Value.ownBlock] at hk; have := Y6.out.size; omega)
      have R7 : RtsV (fun j => Q j ∨ (w1.heap.size ≤ j ∧ j < wr.heap.size)) w7 lf7 := rv7.mv ((Mv.refl _ (fun j => j = w6.heap.size)).grown g7 (fun k _ e => by simp [Value.ownBlock] at e; exact e.symm)) (fun j e e' => by rcases e with e | e; (have := hQ1.out j e; have := Y6.out.size; omega); omega)
      have hl7 : lf7.length = fs'.length := by rw [← e7, List.length_map]
      obtain ⟨a7, c7, rfl⟩ := own_len o7
      have L7 := hide (own_rts o7 R7 (by unfold maxLen; omega))
      rw [e7] at L7
      clear rv7 R7 o7 g7 e7 HA AL
      generalize lf7.length = n7 at *
      refine hK.out _ _ (AT.out _ Y7.out) (fun hHeld => ?_)
      clear hK K
      try simp only [Act.put, List.setIfInBounds_toArray, List.set_cons_zero, List.set_cons_succ]
      clear hl7
      refine wpAnyH_ready (rs := [4]) (by kernel_rfl) (by simp) ?_
      refine AllReadyH.cons (o := { dst := some 59, op := Go.Op.call { callee := Go.Callee.value (Go.Operand.func 7), args := #[Go.Operand.tmp 55, Go.Operand.tmp 58], argTypes := #[23, 24] }, type := 26, pos := "code.go:48", after := #[{ on := 0, ground := Go.Ground.data }, { on := 3, ground := Go.Ground.data }, { on := 3, ground := Go.Ground.chain }], guard := none }) rfl (fun K hK => ?_) AllReadyH.nil
      clear hHeld
      go_simp
      refine (DG.out _ _ _ _ L7.out).mono ?_
      rintro e w8 ⟨rfl, hb8⟩
      have Y8 := hide (below_on Y7.out hb8)
      clear hb8 L7 Y7
      refine hK.out _ _ (AT.out _ Y8.out) (fun hHeld => ?_)
      clear hK K
      try simp only [Act.put, List.setIfInBounds_toArray, List.set_cons_zero, List.set_cons_succ]
      refine' wpAnyH_take (i := 5) (oi := { dst := some 54, op := Go.Op.move (Go.Operand.tmp 59), type := 26, pos := "code.go:48", after := #[{ on := 4, ground := Go.Ground.data }], guard := none }) (v := _) rfl (by kernel_rfl) (by kernel_rfl) (by kernel_rfl) (fun _ _ _ h => h) (Or.inl ⟨by rfl, ?hyr1_5⟩) (by assumption) ?rer1_5
      case hyr1_5 => (intro W hSw; (try dsimp only at hSw); go_simp; try with_reducible rfl)
      try simp only [Act.put, List.setIfInBounds_toArray, List.set_cons_zero, List.set_cons_succ]
      refine' wpAnyH_take (i := 6) (oi := { dst := some 60, op := Go.Op.extract (Go.Operand.tmp 54) 0, type := 3, pos := "code.go:48", after := #[{ on := 5, ground := Go.Ground.data }], guard := none }) (v := _) rfl (by kernel_rfl) (by kernel_rfl) (by kernel_rfl) (fun _ _ _ h => h) (Or.inl ⟨by rfl, ?hyr1_6⟩) (by assumption) ?rer1_6
      case hyr1_6 => (intro W hSw; (try dsimp only at hSw); go_simp; try with_reducible rfl)
      try simp only [Act.put, List.setIfInBounds_toArray, List.set_cons_zero, List.set_cons_succ]
      refine' wpAnyH_take (i := 7) (oi := { dst := some 61, op := Go.Op.extract (Go.Operand.tmp 54) 1, type := 3, pos := "code.go:48", after := #[{ on := 5, ground := Go.Ground.data }, { on := 8, ground := Go.Ground.gcOnly Go.Departure.lateStores }], guard := none }) (v := _) rfl (by kernel_rfl) (by kernel_rfl) (by kernel_rfl) (fun _ _ _ h => h) (Or.inl ⟨by rfl, ?hyr1_7⟩) (by assumption) ?rer1_7
      case hyr1_7 => (intro W hSw; (try dsimp only at hSw); go_simp; try with_reducible rfl)
      try simp only [Act.put, List.setIfInBounds_toArray, List.set_cons_zero, List.set_cons_succ]
      refine' wpAnyH_take (i := 8) (oi := { dst := some 18, op := Go.Op.assign (Go.Operand.tmp 60), type := 3, pos := "code.go:48", after := #[{ on := 6, ground := Go.Ground.data }, { on := 4, ground := Go.Ground.chain }, { on := 0, ground := Go.Ground.phase }, { on := 1, ground := Go.Ground.phase }, { on := 2, ground := Go.Ground.phase }, { on := 3, ground := Go.Ground.phase }, { on := 4, ground := Go.Ground.phase }, { on := 5, ground := Go.Ground.phase }, { on := 6, ground := Go.Ground.phase }, { on := 7, ground := Go.Ground.textOnly Go.Departure.lateStores }], guard := none }) (v := _) rfl (by kernel_rfl) (by kernel_rfl) (by kernel_rfl) (fun _ _ _ h => h) (Or.inl ⟨by rfl, ?hyr1_8⟩) (by assumption) ?rer1_8
      case hyr1_8 => (intro W hSw; (try dsimp only at hSw); go_simp; try with_reducible rfl)
      try simp only [Act.put, List.setIfInBounds_toArray, List.set_cons_zero, List.set_cons_succ]
      refine' wpAnyH_take (i := 9) (oi := { dst := some 19, op := Go.Op.assign (Go.Operand.tmp 61), type := 3, pos := "code.go:48", after := #[{ on := 7, ground := Go.Ground.data }, { on := 8, ground := Go.Ground.chain }, { on := 0, ground := Go.Ground.phase }, { on := 1, ground := Go.Ground.phase }, { on := 2, ground := Go.Ground.phase }, { on := 3, ground := Go.Ground.phase }, { on := 4, ground := Go.Ground.phase }, { on := 5, ground := Go.Ground.phase }, { on := 6, ground := Go.Ground.phase }, { on := 7, ground := Go.Ground.phase }, { on := 8, ground := Go.Ground.phase }], guard := none }) (v := _) rfl (by kernel_rfl) (by kernel_rfl) (by kernel_rfl) (fun _ _ _ h => h) (Or.inl ⟨by rfl, ?hyr1_9⟩) (by assumption) ?rer1_9
      case hyr1_9 => (intro W hSw; (try dsimp only at hSw); go_simp; try with_reducible rfl)
      try simp only [Act.put, List.setIfInBounds_toArray, List.set_cons_zero, List.set_cons_succ]
      refine wpAnyH_done (by kernel_rfl) ?_ _
      clear hHeld x0 x1
      refine NoPanic.normal ?_
      generalize takE fs' i = te' at *
      have KN := hide (name_any op w8 (KK.out _ Y8.out).1)
      go_wp2_with fail
      refine KN.out.mono ?_
      rintro e w9 ⟨rfl, hb9⟩
      have Y9 := hide (below_on Y8.out hb9)
      clear hb9 Y8 KN
      have DN := hide (dname_any op w9)
      go_wp2_with fail
      refine DN.out.mono ?_
      rintro e wa ⟨rfl, hba⟩
      have Ya := hide (below_on Y9.out hba)
      clear hba Y9 DN
      have KU := hide (number_any s wa (KK.out _ Ya.out).1)
      have t1 : ((wd (opk op)).toList == (wd (opk op)).toList) = true := by simp
      go_wp2_with fail
      refine KU.out.mono ?_
      rintro e wb ⟨rfl, rfl⟩
      have DU := hide (dnumber_any s wb)
      go_wp2_with fail
      refine DU.out.mono ?_
      rintro e wc ⟨rfl, hbc⟩
      have Yc := hide (below_on YW.out (below_on Ya.out hbc))
      clear hbc Ya
      go_wp2_with fail
      go_ret
      exact ⟨rfl, Yc.out⟩
end Go.Proofs.YtpolajoephjdhaaDoor
