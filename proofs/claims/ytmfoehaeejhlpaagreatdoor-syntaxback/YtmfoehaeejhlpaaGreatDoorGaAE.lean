import Derived.Test.YtmfoehaeejhlpaaGreatDoorGaAD
/-
  The reader: unary.
-/
namespace Go.Proofs.YtmfoehaeejhlpaaGreatDoor
open Go.RowKit Yn
set_option maxRecDepth 100000
/-- What is said of a function that reads an expression, with so much to go on. -/
def Cc (n : Nat) : Prop := ∀ (W : World) (B k : Nat) (ws : List ByteArray) (s : S), Rd W B k ws s → cond ws n s ≠ .out → Calls Tryz.prog 201 #[.pointer (some ⟨k, 0, none⟩)] W (Out (isTree W) W B k ws (cond ws n s))
def Cb (n : Nat) : Prop := ∀ (W : World) (B k : Nat) (ws : List ByteArray) (s : S) (m : Nat), 1 ≤ m → m ≤ 100 → Rd W B k ws s → binary ws n m s ≠ .out → Calls Tryz.prog 209 #[.pointer (some ⟨k, 0, none⟩), .int .i64 (m : Int)] W (Out (isTree W) W B k ws (binary ws n m s))
def Cu (n : Nat) : Prop := ∀ (W : World) (B k : Nat) (ws : List ByteArray) (s : S), Rd W B k ws s → unary ws n s ≠ .out → Calls Tryz.prog 213 #[.pointer (some ⟨k, 0, none⟩)] W (Out (isTree W) W B k ws (unary ws n s))
def Cp (n : Nat) : Prop := ∀ (W : World) (B k : Nat) (ws : List ByteArray) (s : S), Rd W B k ws s → primary ws n s ≠ .out → Calls Tryz.prog 214 #[.pointer (some ⟨k, 0, none⟩)] W (Out (isTree W) W B k ws (primary ws n s))
theorem open_out {x : ByteArray} {s : S} : openS x s ≠ .out := by
  unfold openS fail
  split
  · split <;> (intro h; cases h)
  · intro h; cases h
theorem take_out {x : ByteArray} {s : S} : take x s ≠ .out := by
  unfold take fail
  split <;> (intro h; cases h)
set_option maxHeartbeats 8000000 in
theorem unary_step {n : Nat} (hu : Cu n) (hp : Cp n) : Cu (n + 1) := by
  intro W B k ws s hR hne
  obtain ⟨i0, hi0, hz0, hz1, hz2⟩ := info_parts infoN
  have HU := hide hu
  have HP := hide hp
  have hkW := hR.lt
  have H := hide hR
  have f1 := fld1
  obtain ⟨r, hr⟩ : ∃ r, r = unary ws (n + 1) s := ⟨_, rfl⟩
  rw [← hr] at hne ⊢
  have HNE := hide hne
  rw [unary] at hr
  have J1 := hide (isAt_any hR cMin)
  clear hu hp hR hne
  cases b1 : isAt s cMin with
  | true =>
    rw [b1] at J1 hr
    simp only [Bool.true_or, if_true] at hr
    have HE := hide hr
    have htx : (hd s).t ≠ bs [] := by
      unfold isAt at b1
      rw [decide_eq_true_eq] at b1
      rw [b1]
      decide
    clear hr b1
    go_enter Tryz.func213, Tryz.ntmps213
    go_wp2_with fail
    refine J1.out.mono ?_
    rintro e w1 ⟨rfl, hb1⟩
    have HB1 := hide hb1
    have R1 := hide (H.out.later hb1)
    clear hb1 J1
    go_wp2_with fail
    refine (node_any R1.out 34).mono ?_
    rintro e w2 ⟨g, rfl, hg, hg2, hb2⟩
    have hgl : w1.heap.size ≤ g := hg
    have hsz1 := HB1.out.size
    have HB2 := hide (below_on HB1.out hb2)
    have R2 := hide (R1.out.later hb2)
    have G2 := hide hg2
    clear hb2 hg2
    go_wp2_with fail
    have JN := hide (now_any R2.out)
    unfold tokV at JN
    refine JN.out.mono ?_
    rintro e w2' ⟨rfl, hb2'⟩
    have hg2' := (hb2'.block g (lt_of_block G2.out)).trans G2.out
    have c1 : w2'.cell? ⟨g, 1, none⟩ = some (.string (bs [])) := by rw [cell_of_row w2' g _ _ 51 (0, 0) hg2']; rfl
    have f1' : w2'.frozen? ⟨g, 1, none⟩ = false := frozen_of_row w2' g 1 _ 51 hg2'
    have hgk : g ≠ k := by omega
    have hm3 : Mv w2' (w2'.setCell ⟨g, 1, none⟩ (.string (hd s).t)) (fun j => j = g) := (Mv.refl w2' (fun j => j = g)).set (g := g) rfl _ _
    have hg3 := heap_setCell_same w2' g 1 _ 51 (.string (hd s).t) hg2'
    have R3 := hide ((R2.out.later hb2').mv hm3 (fun j e => by
      have := R2.out.1
      have : j = g := e
      omega))
    have M3 : Hid (Mv W (w2'.setCell ⟨g, 1, none⟩ (.string (hd s).t)) (fun j => j = k)) := (Mv.of_below (below_on HB2.out hb2') (fun j => j = k)).trans hm3 (fun j hj e => by have : j = g := e; omega)
    obtain ⟨w3, hw3⟩ : ∃ X, X = w2'.setCell ⟨g, 1, none⟩ (.string (hd s).t) := ⟨_, rfl⟩
    rw [← hw3] at R3 M3 hg3
    have G3 : Hid (w3.heap[g]? = some (.cells #[.int .i64 34, .string (hd s).t, .int .i64 0, .slice none 0 0, .int .i64 ((hd s).a : Int)] 51 (0, 0))) := hg3
    have d1 : w3.cell? ⟨g, 1, none⟩ = some (.string (hd s).t) := by rw [cell_of_row w3 g _ _ 51 (0, 0) G3.out]; rfl
    have HW3 := hide hw3
    clear hm3 hg3 hg2' hb2' JN G2 R2 HB2 hw3
    go_upto_region 5 with fail
    rw [← HW3.out]
    clear c1 f1' HW3
    go_wp2_with fail
    cases ho : openS (hd s).t s with
    | out => exact absurd ho open_out
    | no a er =>
      have J := open_any R3.out (hd s).t htx
      rw [ho] at J
      refine J.mono ?_
      rintro e w4 hp
      have hp2 := Pn.from hp M3.out
      obtain ⟨q, rfl, -⟩ := hp
      have ER : r = .no a er := by rw [HE.out, ho]; rfl
      subst ER
      exact ⟨rfl, hp2⟩
    | ok u s1 =>
      have J := open_any R3.out (hd s).t htx
      rw [ho] at J
      have HO := hide ho
      refine J.mono ?_
      rintro e w4 ⟨v, rfl, hv, hr4, hm4⟩
      obtain rfl := hv
      have R4 := hide hr4
      have M4 := hide (M3.out.trans hm4 (fun _ _ e => e))
      have G4 := hide (hm4.at G3.out hgk)
      have hsz4 : g < w4.heap.size := lt_of_block G4.out
      have C4 : w4.drew.cell? ⟨g, 3, none⟩ = some (.slice none 0 0) := by rw [cell_of_row w4.drew g _ _ 51 (0, 0) G4.out]; rfl
      clear hr4 hm4 J G3 R3 M3 d1 ho
      cases hq : unary ws n s1 with
      | out =>
        exact absurd (show r = .out by rw [HE.out, HO.out]; show R.bind (unary ws n s1) _ = _; rw [hq]; rfl) HNE.out
      | no a er =>
        have ER : r = .no a er := by rw [HE.out, HO.out]; show R.bind (unary ws n s1) _ = _; rw [hq]; rfl
        have HQ := hide hq
        clear hq
        go_upto_region 6 with fail
        refine wp_region_late (J := fun i => i != 11) (S := fun Wq => Wq.cell? ⟨g, 3, none⟩ = some (.slice none 0 0)) (by kernel_rfl) C4 (fun hHeld => ?_)
        refine' wpAnyJ_takeW (i := 0) (v := _) rfl (by kernel_rfl) (by kernel_rfl) (by kernel_rfl) (fun _ _ _ h => h) (Or.inl ⟨by rfl, ?hyAn1⟩) ?reAn1
        case hyAn1 => (intro W hSw; (try dsimp only at hSw); go_simp; try with_reducible rfl)
        try simp only [Act.put, List.setIfInBounds_toArray]
        refine' wpAnyJ_takeW (i := 1) (v := _) rfl (by kernel_rfl) (by kernel_rfl) (by kernel_rfl) (fun _ _ _ h => h) (Or.inl ⟨by rfl, ?hyAn2⟩) ?reAn2
        case hyAn2 => (intro W hSw; (try dsimp only at hSw); go_simp; try with_reducible rfl)
        try simp only [Act.put]
        refine' wpAnyJ_takeW (i := 2) (v := _) rfl (by kernel_rfl) (by kernel_rfl) (by kernel_rfl) (fun _ _ _ h => h) (Or.inl ⟨by rfl, ?hyAn3⟩) ?reAn3
        case hyAn3 => (intro W hSw; (try dsimp only at hSw); go_simp; try with_reducible rfl)
        try simp only [Act.put]
        refine' wpAnyJ_takeW (i := 3) (v := _) rfl (by kernel_rfl) (by kernel_rfl) (by kernel_rfl) (fun _ _ _ h => h) (Or.inl ⟨by rfl, ?hyAn4⟩) ?reAn4
        case hyAn4 => (intro W hSw; (try dsimp only at hSw); go_simp; try with_reducible rfl)
        try simp only [Act.put]
        refine' wpAnyJ_take (i := 4) (v := _) rfl (by kernel_rfl) (by kernel_rfl) (by kernel_rfl) (by kernel_rfl) (fun _ _ _ h => h) (Or.inl ⟨by rfl, ?hyAn5⟩) (by assumption) ?reAn5
        case hyAn5 => (intro W hSw; (try dsimp only at hSw); go_simp; try with_reducible rfl)
        try simp only [Act.put]
        refine' wpAnyJ_takeW (i := 5) (v := _) rfl (by kernel_rfl) (by kernel_rfl) (by kernel_rfl) (fun _ _ _ h => h) (Or.inl ⟨by rfl, ?hyAn6⟩) ?reAn6
        case hyAn6 => (intro W hSw; (try dsimp only at hSw); go_simp; try with_reducible rfl)
        try simp only [Act.put]
        refine wpAnyJ_ready (rs := [6]) (by kernel_rfl) (by simp) ?_
        refine AllReadyJ.cons (o := { dst := some 34, op := Op.call { callee := Callee.value (Operand.func 213), args := #[Operand.tmp 33], argTypes := #[56] }, type := 23, pos := "expression.go:45", after := #[{ on := 5, ground := Ground.data }], guard := none }) rfl (fun K hK => ?_) AllReadyJ.nil
        go_simp
        go_at_call 213
        have J := HU.out w4.drew B k ws s1 (R4.out.later (below_drew w4)) (by rw [HQ.out]; intro h; cases h)
        rw [HQ.out] at J
        refine J.mono ?_
        rintro e w5 hp
        have hp2 := Pn.from hp (M4.out.later (below_drew w4))
        obtain ⟨q, rfl, -⟩ := hp
        subst ER
        exact ⟨rfl, hp2⟩
      | ok x s2 =>
        have ER : r = .ok (.mk 34 (hd s).t 0 [x] (hd s).a) (leave s2) := by rw [HE.out, HO.out]; show R.bind (unary ws n s1) _ = _; rw [hq]; rfl
        have hde : 1 ≤ s2.de := by
          have e1 := open_de HO.out
          have e2 := (expr_de ws n).2.2.2.1 _ _ _ hq
          omega
        have HQ := hide hq
        clear hq
        go_upto_region 6 with fail
        refine wp_region_late (J := fun i => i != 11) (S := fun Wq => Wq.cell? ⟨g, 3, none⟩ = some (.slice none 0 0)) (by kernel_rfl) C4 (fun hHeld => ?_)
        refine' wpAnyJ_takeW (i := 0) (v := _) rfl (by kernel_rfl) (by kernel_rfl) (by kernel_rfl) (fun _ _ _ h => h) (Or.inl ⟨by rfl, ?hyA1⟩) ?reA1
        case hyA1 => (intro W hSw; (try dsimp only at hSw); go_simp; try with_reducible rfl)
        try simp only [Act.put, List.setIfInBounds_toArray]
        refine' wpAnyJ_takeW (i := 1) (v := _) rfl (by kernel_rfl) (by kernel_rfl) (by kernel_rfl) (fun _ _ _ h => h) (Or.inl ⟨by rfl, ?hyA2⟩) ?reA2
        case hyA2 => (intro W hSw; (try dsimp only at hSw); go_simp; try with_reducible rfl)
        try simp only [Act.put]
        refine' wpAnyJ_takeW (i := 2) (v := _) rfl (by kernel_rfl) (by kernel_rfl) (by kernel_rfl) (fun _ _ _ h => h) (Or.inl ⟨by rfl, ?hyA3⟩) ?reA3
        case hyA3 => (intro W hSw; (try dsimp only at hSw); go_simp; try with_reducible rfl)
        try simp only [Act.put]
        refine' wpAnyJ_takeW (i := 3) (v := _) rfl (by kernel_rfl) (by kernel_rfl) (by kernel_rfl) (fun _ _ _ h => h) (Or.inl ⟨by rfl, ?hyA4⟩) ?reA4
        case hyA4 => (intro W hSw; (try dsimp only at hSw); go_simp; try with_reducible rfl)
        try simp only [Act.put]
        refine' wpAnyJ_take (i := 4) (v := _) rfl (by kernel_rfl) (by kernel_rfl) (by kernel_rfl) (by kernel_rfl) (fun _ _ _ h => h) (Or.inl ⟨by rfl, ?hyA5⟩) (by assumption) ?reA5
        case hyA5 => (intro W hSw; (try dsimp only at hSw); go_simp; try with_reducible rfl)
        try simp only [Act.put]
        refine' wpAnyJ_takeW (i := 5) (v := _) rfl (by kernel_rfl) (by kernel_rfl) (by kernel_rfl) (fun _ _ _ h => h) (Or.inl ⟨by rfl, ?hyA6⟩) ?reA6
        case hyA6 => (intro W hSw; (try dsimp only at hSw); go_simp; try with_reducible rfl)
        try simp only [Act.put]
        refine wpAnyJ_ready (rs := [6]) (by kernel_rfl) (by simp) ?_
        refine AllReadyJ.cons (o := { dst := some 34, op := Op.call { callee := Callee.value (Operand.func 213), args := #[Operand.tmp 33], argTypes := #[56] }, type := 23, pos := "expression.go:45", after := #[{ on := 5, ground := Ground.data }], guard := none }) rfl (fun K hK => ?_) AllReadyJ.nil
        go_simp
        go_at_call 213
        have J := HU.out w4.drew B k ws s1 (R4.out.later (below_drew w4)) (by rw [HQ.out]; intro h; cases h)
        rw [HQ.out] at J
        refine J.mono ?_
        rintro e w5 ⟨v5, rfl, ht5, hr5, hm5⟩
        obtain ⟨gx, rfl⟩ := Nd.ptr ht5
        have G5 := hide (hm5.at (show w4.drew.heap[g]? = _ from G4.out) hgk)
        have T5 := hide (Nd.tight _ _ ht5)
        have R5 := hide hr5
        have M5 := hide ((M4.out.later (below_drew w4)).trans hm5 (fun _ _ e => e))
        have hz5 : w4.heap.size ≤ w5.heap.size := hm5.size
        have hz4 := M4.out.size
        have C5 : w5.cell? ⟨g, 3, none⟩ = some (.slice none 0 0) := by rw [cell_of_row w5 g _ _ 51 (0, 0) G5.out]; rfl
        obtain ⟨w6, hw6⟩ : ∃ X, X = w5.alloc (.cells #[.pointer (some ⟨gx, 0, none⟩)] 23) := ⟨_, rfl⟩
        have b6 : Below w5.heap.size w5 w6 := hw6 ▸ below_alloc w5 _
        have G6 := hide ((b6.block g (lt_of_block G5.out)).trans G5.out)
        have C6 : w6.cell? ⟨g, 3, none⟩ = some (.slice none 0 0) := by rw [cell_of_row w6 g _ _ 51 (0, 0) G6.out]; rfl
        rw [hw6] at C6
        have HB6 := hide b6
        have HW6 := hide hw6
        clear hr5 hm5 ht5 J hw6 b6 hHeld
        go_simp
        refine hK.out _ _ (fun _ _ => C5) ?_
        clear hK K
        try simp only [Act.put, List.setIfInBounds_toArray, List.set_cons_zero, List.set_cons_succ]
        refine wpAnyJ_ready (rs := [7]) (by kernel_rfl) (by simp) ?_
        refine AllReadyJ.cons (o := { dst := some 35, op := Op.buildSlice 49 1 #[(0, Operand.tmp 34)], type := 49, pos := "expression.go:45", after := #[{ on := 6, ground := Ground.data }], guard := none }) rfl (fun K hK => ?_) AllReadyJ.nil
        go_simp
        refine hK.out _ _ (fun _ _ => C6) ?_
        clear hK K
        try simp only [Act.put, List.setIfInBounds_toArray, List.set_cons_zero, List.set_cons_succ]
        refine wpAnyJ_ready (rs := [8]) (by kernel_rfl) (by simp) ?_
        refine AllReadyJ.cons (o := { dst := some 36, op := Op.call { callee := Callee.builtin Builtin.append, args := #[Operand.tmp 32, Operand.tmp 35], argTypes := #[49, 49] }, type := 49, pos := "expression.go:45", after := #[{ on := 4, ground := Ground.data }, { on := 7, ground := Ground.data }, { on := 6, ground := Ground.chain }], guard := none }) rfl (fun K hK => ?_) AllReadyJ.nil
        refine step_append_lies _ rfl (.tmp 32) (.tmp 35) 49 rfl 0 23 i0 (.pointer none) 1 8 und49 hi0 hz0 hz1 hz2 rfl (by decide) (.slice none 0 0) 0 ([]) (by simp [Act.eval]) (World.ownsRow_nil _ _ _ _) ⟨w5.heap.size, 0, none⟩ 1 1 [.pointer (some ⟨gx, 0, none⟩)] (by simp [Act.eval]) rfl (by intro j u hj; match j, hj with | 0, hj => simp at hj; subst hj; simp [Addr.add]) (by intro u hu; simp at hu; subst hu; rfl) (by omega) (by unfold maxLen; omega) (by omega) (Nat.zero_le _) _ rfl ?_
        intro g9 c9 w9 ho9 hg9 ha9 _
        rw [← HW6.out] at hg9
        have b9 : Below w6.heap.size w6 w9 := (Below.refl _ w6).grown hg9 (Nat.le_refl _) (fun q e => by simp [Value.ownBlock] at e)
        have G9 := hide ((b9.block g (lt_of_block G6.out)).trans G6.out)
        have C9 : w9.cell? ⟨g, 3, none⟩ = some (.slice none 0 0) := by rw [cell_of_row w9 g _ _ 51 (0, 0) G9.out]; rfl
        have F9 : w9.frozen? ⟨g, 3, none⟩ = false := frozen_of_row w9 g 3 _ 51 G9.out
        have hz6 := HB6.out.size
        have hz56 : w6.heap.size = w5.heap.size + 1 := by rw [HW6.out]; simp
        have hg9' : g9 = w6.heap.size := by
          rcases ha9 with e | e
          · simp [Value.ownBlock] at e
          · rw [e, ← HW6.out]
        have O9' : w9.ownsRow 0 23 1 (.slice (some ⟨g9, 0, none⟩) 1 c9) 1 [.pointer (some ⟨gx, 0, none⟩)] := by simpa using ho9
        have O9 := hide O9'
        have HB9 := hide (below_on HB6.out b9)
        have NM := hide (nd_made (w5 := w5) (w6 := w9) (lo := W.heap.size) (l := [x]) (ps := [.pointer (some ⟨gx, 0, none⟩)]) (v' := .slice (some ⟨g9, 0, none⟩) 1 c9) G5.out (by omega) (by
          rw [Nds]
          exact ⟨_, _, rfl, Nd.mono (fun q hq => ⟨by have : w4.heap.size ≤ q := hq.1; omega, hq.2, by have : w4.heap.size ≤ q := hq.1; omega⟩) _ _ T5.out, Nds.none⟩) O9.out HB9.out (fun q e => by have e' : g9 = q := Option.some.inj e; omega) (by omega))
        clear ho9 hg9 ha9 b9 O9' hg9' hz56 hz6
        refine hK.out _ _ (fun _ _ => C9) ?_
        clear hK K
        try simp only [Act.put, List.setIfInBounds_toArray, List.set_cons_zero, List.set_cons_succ]
        refine' wpAnyJ_takeW (i := 9) (v := _) rfl (by kernel_rfl) (by kernel_rfl) (by kernel_rfl) (fun _ _ _ h => h) (Or.inl ⟨by rfl, ?hyA7⟩) ?reA7
        case hyA7 => (intro W hSw; (try dsimp only at hSw); go_simp; try with_reducible rfl)
        try simp only [Act.put, List.setIfInBounds_toArray]
        refine' wpAnyJ_takeW (i := 10) (v := _) rfl (by kernel_rfl) (by kernel_rfl) (by kernel_rfl) (fun _ _ _ h => h) (Or.inl ⟨by rfl, ?hyA8⟩) ?reA8
        case hyA8 => (intro W hSw; (try dsimp only at hSw); go_simp; try with_reducible rfl)
        try simp only [Act.put]
        refine wpAnyJ_ready (rs := [11]) (by kernel_rfl) (by simp) ?_
        refine AllReadyJ.cons (o := { dst := none, op := Op.store 49 (Operand.tmp 38) (Operand.tmp 36), type := 0, pos := "expression.go:45", after := #[{ on := 10, ground := Ground.data }, { on := 8, ground := Ground.data }, { on := 8, ground := Ground.chain }, { on := 0, ground := Ground.phase }, { on := 1, ground := Ground.phase }, { on := 2, ground := Ground.phase }, { on := 3, ground := Ground.phase }, { on := 4, ground := Ground.phase }, { on := 5, ground := Ground.phase }, { on := 6, ground := Ground.phase }, { on := 7, ground := Ground.phase }, { on := 8, ground := Ground.phase }], guard := none }) rfl (fun K hK => ?_) AllReadyJ.nil
        go_simp
        refine hK.out _ _ (fun h => absurd h (by decide)) ?_
        clear hK K
        try simp only [Act.put, List.setIfInBounds_toArray, List.set_cons_zero, List.set_cons_succ]
        refine wpAnyJ_done (by kernel_rfl) ?_ _
        have R10 := hide ((R5.out.mv NM.out.2 (fun j e => by
          have := R5.out.1
          have : j = g := e
          omega)))
        have M10 : Hid (Mv W (w9.setCell ⟨g, 3, none⟩ (.slice (some ⟨g9, 0, none⟩) 1 c9)) (fun j => j = k)) := M5.out.trans NM.out.2 (fun j hj e => by have : j = g := e; omega)
        obtain ⟨w10, hw10⟩ : ∃ X, X = w9.setCell ⟨g, 3, none⟩ (.slice (some ⟨g9, 0, none⟩) 1 c9) := ⟨_, rfl⟩
        have T10 := hide NM.out.1
        rw [← hw10] at R10 M10 T10 ⊢
        clear hw10 NM C9 F9 G9 O9
        go_wp2_with fail
        refine (leave_any R10.out hde).mono ?_
        rintro e w11 ⟨rfl, hr11, hm11⟩
        have R11 := hide hr11
        have M11 := hide (M10.out.trans hm11 (fun _ _ e => e))
        have hk' : k < W.heap.size := hkW
        have T11 := hide (Nd.mv hm11 (fun q (hq : W.heap.size ≤ q) (e : q = k) => by omega) _ _ T10.out)
        clear hr11 hm11
        go_wp2_with fail
        go_ret
        rw [ER]
        exact ⟨_, rfl, T11.out, R11.out, M11.out⟩
  | false =>
    rw [b1] at J1 hr
    simp only [Bool.false_or] at hr
    clear b1
    cases b2 : isAt s cNot with
    | true =>
      rw [b2] at hr
      simp only [if_true] at hr
      have HE := hide hr
      have htx : (hd s).t ≠ bs [] := by
        have b3 := b2
        unfold isAt at b3
        rw [decide_eq_true_eq] at b3
        rw [b3]
        decide
      clear hr
      go_enter Tryz.func213, Tryz.ntmps213
      go_wp2_with fail
      refine J1.out.mono ?_
      rintro e w0 ⟨rfl, hb0⟩
      have J2 := hide (isAt_any (H.out.later hb0) cNot)
      rw [b2] at J2
      have HB0 := hide hb0
      clear hb0 J1 b2
      go_wp2_with fail
      refine J2.out.mono ?_
      rintro e w1 ⟨rfl, hb1⟩
      have HB1 := hide (below_on HB0.out hb1)
      have R1 := hide ((H.out.later HB0.out).later hb1)
      clear hb1 J2
      go_wp2_with fail
      refine (node_any R1.out 34).mono ?_
      rintro e w2 ⟨g, rfl, hg, hg2, hb2⟩
      have hgl : w1.heap.size ≤ g := hg
      have hsz1 := HB1.out.size
      have HB2 := hide (below_on HB1.out hb2)
      have R2 := hide (R1.out.later hb2)
      have G2 := hide hg2
      clear hb2 hg2
      go_wp2_with fail
      have JN := hide (now_any R2.out)
      unfold tokV at JN
      refine JN.out.mono ?_
      rintro e w2' ⟨rfl, hb2'⟩
      have hg2' := (hb2'.block g (lt_of_block G2.out)).trans G2.out
      have c1 : w2'.cell? ⟨g, 1, none⟩ = some (.string (bs [])) := by rw [cell_of_row w2' g _ _ 51 (0, 0) hg2']; rfl
      have f1' : w2'.frozen? ⟨g, 1, none⟩ = false := frozen_of_row w2' g 1 _ 51 hg2'
      have hgk : g ≠ k := by omega
      have hm3 : Mv w2' (w2'.setCell ⟨g, 1, none⟩ (.string (hd s).t)) (fun j => j = g) := (Mv.refl w2' (fun j => j = g)).set (g := g) rfl _ _
      have hg3 := heap_setCell_same w2' g 1 _ 51 (.string (hd s).t) hg2'
      have R3 := hide ((R2.out.later hb2').mv hm3 (fun j e => by
        have := R2.out.1
        have : j = g := e
        omega))
      have M3 : Hid (Mv W (w2'.setCell ⟨g, 1, none⟩ (.string (hd s).t)) (fun j => j = k)) := (Mv.of_below (below_on HB2.out hb2') (fun j => j = k)).trans hm3 (fun j hj e => by have : j = g := e; omega)
      obtain ⟨w3, hw3⟩ : ∃ X, X = w2'.setCell ⟨g, 1, none⟩ (.string (hd s).t) := ⟨_, rfl⟩
      rw [← hw3] at R3 M3 hg3
      have G3 : Hid (w3.heap[g]? = some (.cells #[.int .i64 34, .string (hd s).t, .int .i64 0, .slice none 0 0, .int .i64 ((hd s).a : Int)] 51 (0, 0))) := hg3
      have d1 : w3.cell? ⟨g, 1, none⟩ = some (.string (hd s).t) := by rw [cell_of_row w3 g _ _ 51 (0, 0) G3.out]; rfl
      have HW3 := hide hw3
      clear hm3 hg3 hg2' hb2' JN G2 R2 HB2 hw3
      go_upto_region 5 with fail
      rw [← HW3.out]
      clear c1 f1' HW3
      go_wp2_with fail
      cases ho : openS (hd s).t s with
      | out => exact absurd ho open_out
      | no a er =>
        have J := open_any R3.out (hd s).t htx
        rw [ho] at J
        refine J.mono ?_
        rintro e w4 hp
        have hp2 := Pn.from hp M3.out
        obtain ⟨q, rfl, -⟩ := hp
        have ER : r = .no a er := by rw [HE.out, ho]; rfl
        subst ER
        exact ⟨rfl, hp2⟩
      | ok u s1 =>
        have J := open_any R3.out (hd s).t htx
        rw [ho] at J
        have HO := hide ho
        refine J.mono ?_
        rintro e w4 ⟨v, rfl, hv, hr4, hm4⟩
        obtain rfl := hv
        have R4 := hide hr4
        have M4 := hide (M3.out.trans hm4 (fun _ _ e => e))
        have G4 := hide (hm4.at G3.out hgk)
        have hsz4 : g < w4.heap.size := lt_of_block G4.out
        have C4 : w4.drew.cell? ⟨g, 3, none⟩ = some (.slice none 0 0) := by rw [cell_of_row w4.drew g _ _ 51 (0, 0) G4.out]; rfl
        clear hr4 hm4 J G3 R3 M3 d1 ho
        cases hq : unary ws n s1 with
        | out =>
          exact absurd (show r = .out by rw [HE.out, HO.out]; show R.bind (unary ws n s1) _ = _; rw [hq]; rfl) HNE.out
        | no a er =>
          have ER : r = .no a er := by rw [HE.out, HO.out]; show R.bind (unary ws n s1) _ = _; rw [hq]; rfl
          have HQ := hide hq
          clear hq
          go_upto_region 6 with fail
          refine wp_region_late (J := fun i => i != 11) (S := fun Wq => Wq.cell? ⟨g, 3, none⟩ = some (.slice none 0 0)) (by kernel_rfl) C4 (fun hHeld => ?_)
          refine' wpAnyJ_takeW (i := 0) (v := _) rfl (by kernel_rfl) (by kernel_rfl) (by kernel_rfl) (fun _ _ _ h => h) (Or.inl ⟨by rfl, ?hyBn1⟩) ?reBn1
          case hyBn1 => (intro W hSw; (try dsimp only at hSw); go_simp; try with_reducible rfl)
          try simp only [Act.put, List.setIfInBounds_toArray]
          refine' wpAnyJ_takeW (i := 1) (v := _) rfl (by kernel_rfl) (by kernel_rfl) (by kernel_rfl) (fun _ _ _ h => h) (Or.inl ⟨by rfl, ?hyBn2⟩) ?reBn2
          case hyBn2 => (intro W hSw; (try dsimp only at hSw); go_simp; try with_reducible rfl)
          try simp only [Act.put]
          refine' wpAnyJ_takeW (i := 2) (v := _) rfl (by kernel_rfl) (by kernel_rfl) (by kernel_rfl) (fun _ _ _ h => h) (Or.inl ⟨by rfl, ?hyBn3⟩) ?reBn3
          case hyBn3 => (intro W hSw; (try dsimp only at hSw); go_simp; try with_reducible rfl)
          try simp only [Act.put]
          refine' wpAnyJ_takeW (i := 3) (v := _) rfl (by kernel_rfl) (by kernel_rfl) (by kernel_rfl) (fun _ _ _ h => h) (Or.inl ⟨by rfl, ?hyBn4⟩) ?reBn4
          case hyBn4 => (intro W hSw; (try dsimp only at hSw); go_simp; try with_reducible rfl)
          try simp only [Act.put]
          refine' wpAnyJ_take (i := 4) (v := _) rfl (by kernel_rfl) (by kernel_rfl) (by kernel_rfl) (by kernel_rfl) (fun _ _ _ h => h) (Or.inl ⟨by rfl, ?hyBn5⟩) (by assumption) ?reBn5
          case hyBn5 => (intro W hSw; (try dsimp only at hSw); go_simp; try with_reducible rfl)
          try simp only [Act.put]
          refine' wpAnyJ_takeW (i := 5) (v := _) rfl (by kernel_rfl) (by kernel_rfl) (by kernel_rfl) (fun _ _ _ h => h) (Or.inl ⟨by rfl, ?hyBn6⟩) ?reBn6
          case hyBn6 => (intro W hSw; (try dsimp only at hSw); go_simp; try with_reducible rfl)
          try simp only [Act.put]
          refine wpAnyJ_ready (rs := [6]) (by kernel_rfl) (by simp) ?_
          refine AllReadyJ.cons (o := { dst := some 34, op := Op.call { callee := Callee.value (Operand.func 213), args := #[Operand.tmp 33], argTypes := #[56] }, type := 23, pos := "expression.go:45", after := #[{ on := 5, ground := Ground.data }], guard := none }) rfl (fun K hK => ?_) AllReadyJ.nil
          go_simp
          go_at_call 213
          have J := HU.out w4.drew B k ws s1 (R4.out.later (below_drew w4)) (by rw [HQ.out]; intro h; cases h)
          rw [HQ.out] at J
          refine J.mono ?_
          rintro e w5 hp
          have hp2 := Pn.from hp (M4.out.later (below_drew w4))
          obtain ⟨q, rfl, -⟩ := hp
          subst ER
          exact ⟨rfl, hp2⟩
        | ok x s2 =>
          have ER : r = .ok (.mk 34 (hd s).t 0 [x] (hd s).a) (leave s2) := by rw [HE.out, HO.out]; show R.bind (unary ws n s1) _ = _; rw [hq]; rfl
          have hde : 1 ≤ s2.de := by
            have e1 := open_de HO.out
            have e2 := (expr_de ws n).2.2.2.1 _ _ _ hq
            omega
          have HQ := hide hq
          clear hq
          go_upto_region 6 with fail
          refine wp_region_late (J := fun i => i != 11) (S := fun Wq => Wq.cell? ⟨g, 3, none⟩ = some (.slice none 0 0)) (by kernel_rfl) C4 (fun hHeld => ?_)
          refine' wpAnyJ_takeW (i := 0) (v := _) rfl (by kernel_rfl) (by kernel_rfl) (by kernel_rfl) (fun _ _ _ h => h) (Or.inl ⟨by rfl, ?hyB1⟩) ?reB1
          case hyB1 => (intro W hSw; (try dsimp only at hSw); go_simp; try with_reducible rfl)
          try simp only [Act.put, List.setIfInBounds_toArray]
          refine' wpAnyJ_takeW (i := 1) (v := _) rfl (by kernel_rfl) (by kernel_rfl) (by kernel_rfl) (fun _ _ _ h => h) (Or.inl ⟨by rfl, ?hyB2⟩) ?reB2
          case hyB2 => (intro W hSw; (try dsimp only at hSw); go_simp; try with_reducible rfl)
          try simp only [Act.put]
          refine' wpAnyJ_takeW (i := 2) (v := _) rfl (by kernel_rfl) (by kernel_rfl) (by kernel_rfl) (fun _ _ _ h => h) (Or.inl ⟨by rfl, ?hyB3⟩) ?reB3
          case hyB3 => (intro W hSw; (try dsimp only at hSw); go_simp; try with_reducible rfl)
          try simp only [Act.put]
          refine' wpAnyJ_takeW (i := 3) (v := _) rfl (by kernel_rfl) (by kernel_rfl) (by kernel_rfl) (fun _ _ _ h => h) (Or.inl ⟨by rfl, ?hyB4⟩) ?reB4
          case hyB4 => (intro W hSw; (try dsimp only at hSw); go_simp; try with_reducible rfl)
          try simp only [Act.put]
          refine' wpAnyJ_take (i := 4) (v := _) rfl (by kernel_rfl) (by kernel_rfl) (by kernel_rfl) (by kernel_rfl) (fun _ _ _ h => h) (Or.inl ⟨by rfl, ?hyB5⟩) (by assumption) ?reB5
          case hyB5 => (intro W hSw; (try dsimp only at hSw); go_simp; try with_reducible rfl)
          try simp only [Act.put]
          refine' wpAnyJ_takeW (i := 5) (v := _) rfl (by kernel_rfl) (by kernel_rfl) (by kernel_rfl) (fun _ _ _ h => h) (Or.inl ⟨by rfl, ?hyB6⟩) ?reB6
          case hyB6 => (intro W hSw; (try dsimp only at hSw); go_simp; try with_reducible rfl)
          try simp only [Act.put]
          refine wpAnyJ_ready (rs := [6]) (by kernel_rfl) (by simp) ?_
          refine AllReadyJ.cons (o := { dst := some 34, op := Op.call { callee := Callee.value (Operand.func 213), args := #[Operand.tmp 33], argTypes := #[56] }, type := 23, pos := "expression.go:45", after := #[{ on := 5, ground := Ground.data }], guard := none }) rfl (fun K hK => ?_) AllReadyJ.nil
          go_simp
          go_at_call 213
          have J := HU.out w4.drew B k ws s1 (R4.out.later (below_drew w4)) (by rw [HQ.out]; intro h; cases h)
          rw [HQ.out] at J
          refine J.mono ?_
          rintro e w5 ⟨v5, rfl, ht5, hr5, hm5⟩
          obtain ⟨gx, rfl⟩ := Nd.ptr ht5
          have G5 := hide (hm5.at (show w4.drew.heap[g]? = _ from G4.out) hgk)
          have T5 := hide (Nd.tight _ _ ht5)
          have R5 := hide hr5
          have M5 := hide ((M4.out.later (below_drew w4)).trans hm5 (fun _ _ e => e))
          have hz5 : w4.heap.size ≤ w5.heap.size := hm5.size
          have hz4 := M4.out.size
          have C5 : w5.cell? ⟨g, 3, none⟩ = some (.slice none 0 0) := by rw [cell_of_row w5 g _ _ 51 (0, 0) G5.out]; rfl
          obtain ⟨w6, hw6⟩ : ∃ X, X = w5.alloc (.cells #[.pointer (some ⟨gx, 0, none⟩)] 23) := ⟨_, rfl⟩
          have b6 : Below w5.heap.size w5 w6 := hw6 ▸ below_alloc w5 _
          have G6 := hide ((b6.block g (lt_of_block G5.out)).trans G5.out)
          have C6 : w6.cell? ⟨g, 3, none⟩ = some (.slice none 0 0) := by rw [cell_of_row w6 g _ _ 51 (0, 0) G6.out]; rfl
          rw [hw6] at C6
          have HB6 := hide b6
          have HW6 := hide hw6
          clear hr5 hm5 ht5 J hw6 b6 hHeld
          go_simp
          refine hK.out _ _ (fun _ _ => C5) ?_
          clear hK K
          try simp only [Act.put, List.setIfInBounds_toArray, List.set_cons_zero, List.set_cons_succ]
          refine wpAnyJ_ready (rs := [7]) (by kernel_rfl) (by simp) ?_
          refine AllReadyJ.cons (o := { dst := some 35, op := Op.buildSlice 49 1 #[(0, Operand.tmp 34)], type := 49, pos := "expression.go:45", after := #[{ on := 6, ground := Ground.data }], guard := none }) rfl (fun K hK => ?_) AllReadyJ.nil
          go_simp
          refine hK.out _ _ (fun _ _ => C6) ?_
          clear hK K
          try simp only [Act.put, List.setIfInBounds_toArray, List.set_cons_zero, List.set_cons_succ]
          refine wpAnyJ_ready (rs := [8]) (by kernel_rfl) (by simp) ?_
          refine AllReadyJ.cons (o := { dst := some 36, op := Op.call { callee := Callee.builtin Builtin.append, args := #[Operand.tmp 32, Operand.tmp 35], argTypes := #[49, 49] }, type := 49, pos := "expression.go:45", after := #[{ on := 4, ground := Ground.data }, { on := 7, ground := Ground.data }, { on := 6, ground := Ground.chain }], guard := none }) rfl (fun K hK => ?_) AllReadyJ.nil
          refine step_append_lies _ rfl (.tmp 32) (.tmp 35) 49 rfl 0 23 i0 (.pointer none) 1 8 und49 hi0 hz0 hz1 hz2 rfl (by decide) (.slice none 0 0) 0 ([]) (by simp [Act.eval]) (World.ownsRow_nil _ _ _ _) ⟨w5.heap.size, 0, none⟩ 1 1 [.pointer (some ⟨gx, 0, none⟩)] (by simp [Act.eval]) rfl (by intro j u hj; match j, hj with | 0, hj => simp at hj; subst hj; simp [Addr.add]) (by intro u hu; simp at hu; subst hu; rfl) (by omega) (by unfold maxLen; omega) (by omega) (Nat.zero_le _) _ rfl ?_
          intro g9 c9 w9 ho9 hg9 ha9 _
          rw [← HW6.out] at hg9
          have b9 : Below w6.heap.size w6 w9 := (Below.refl _ w6).grown hg9 (Nat.le_refl _) (fun q e => by simp [Value.ownBlock] at e)
          have G9 := hide ((b9.block g (lt_of_block G6.out)).trans G6.out)
          have C9 : w9.cell? ⟨g, 3, none⟩ = some (.slice none 0 0) := by rw [cell_of_row w9 g _ _ 51 (0, 0) G9.out]; rfl
          have F9 : w9.frozen? ⟨g, 3, none⟩ = false := frozen_of_row w9 g 3 _ 51 G9.out
          have hz6 := HB6.out.size
          have hz56 : w6.heap.size = w5.heap.size + 1 := by rw [HW6.out]; simp
          have hg9' : g9 = w6.heap.size := by
            rcases ha9 with e | e
            · simp [Value.ownBlock] at e
            · rw [e, ← HW6.out]
          have O9' : w9.ownsRow 0 23 1 (.slice (some ⟨g9, 0, none⟩) 1 c9) 1 [.pointer (some ⟨gx, 0, none⟩)] := by simpa using ho9
          have O9 := hide O9'
          have HB9 := hide (below_on HB6.out b9)
          have NM := hide (nd_made (w5 := w5) (w6 := w9) (lo := W.heap.size) (l := [x]) (ps := [.pointer (some ⟨gx, 0, none⟩)]) (v' := .slice (some ⟨g9, 0, none⟩) 1 c9) G5.out (by omega) (by
            rw [Nds]
            exact ⟨_, _, rfl, Nd.mono (fun q hq => ⟨by have : w4.heap.size ≤ q := hq.1; omega, hq.2, by have : w4.heap.size ≤ q := hq.1; omega⟩) _ _ T5.out, Nds.none⟩) O9.out HB9.out (fun q e => by have e' : g9 = q := Option.some.inj e; omega) (by omega))
          clear ho9 hg9 ha9 b9 O9' hg9' hz56 hz6
          refine hK.out _ _ (fun _ _ => C9) ?_
          clear hK K
          try simp only [Act.put, List.setIfInBounds_toArray, List.set_cons_zero, List.set_cons_succ]
          refine' wpAnyJ_takeW (i := 9) (v := _) rfl (by kernel_rfl) (by kernel_rfl) (by kernel_rfl) (fun _ _ _ h => h) (Or.inl ⟨by rfl, ?hyB7⟩) ?reB7
          case hyB7 => (intro W hSw; (try dsimp only at hSw); go_simp; try with_reducible rfl)
          try simp only [Act.put, List.setIfInBounds_toArray]
          refine' wpAnyJ_takeW (i := 10) (v := _) rfl (by kernel_rfl) (by kernel_rfl) (by kernel_rfl) (fun _ _ _ h => h) (Or.inl ⟨by rfl, ?hyB8⟩) ?reB8
          case hyB8 => (intro W hSw; (try dsimp only at hSw); go_simp; try with_reducible rfl)
          try simp only [Act.put]
          refine wpAnyJ_ready (rs := [11]) (by kernel_rfl) (by simp) ?_
          refine AllReadyJ.cons (o := { dst := none, op := Op.store 49 (Operand.tmp 38) (Operand.tmp 36), type := 0, pos := "expression.go:45", after := #[{ on := 10, ground := Ground.data }, { on := 8, ground := Ground.data }, { on := 8, ground := Ground.chain }, { on := 0, ground := Ground.phase }, { on := 1, ground := Ground.phase }, { on := 2, ground := Ground.phase }, { on := 3, ground := Ground.phase }, { on := 4, ground := Ground.phase }, { on := 5, ground := Ground.phase }, { on := 6, ground := Ground.phase }, { on := 7, ground := Ground.phase }, { on := 8, ground := Ground.phase }], guard := none }) rfl (fun K hK => ?_) AllReadyJ.nil
          go_simp
          refine hK.out _ _ (fun h => absurd h (by decide)) ?_
          clear hK K
          try simp only [Act.put, List.setIfInBounds_toArray, List.set_cons_zero, List.set_cons_succ]
          refine wpAnyJ_done (by kernel_rfl) ?_ _
          have R10 := hide ((R5.out.mv NM.out.2 (fun j e => by
            have := R5.out.1
            have : j = g := e
            omega)))
          have M10 : Hid (Mv W (w9.setCell ⟨g, 3, none⟩ (.slice (some ⟨g9, 0, none⟩) 1 c9)) (fun j => j = k)) := M5.out.trans NM.out.2 (fun j hj e => by have : j = g := e; omega)
          obtain ⟨w10, hw10⟩ : ∃ X, X = w9.setCell ⟨g, 3, none⟩ (.slice (some ⟨g9, 0, none⟩) 1 c9) := ⟨_, rfl⟩
          have T10 := hide NM.out.1
          rw [← hw10] at R10 M10 T10 ⊢
          clear hw10 NM C9 F9 G9 O9
          go_wp2_with fail
          refine (leave_any R10.out hde).mono ?_
          rintro e w11 ⟨rfl, hr11, hm11⟩
          have R11 := hide hr11
          have M11 := hide (M10.out.trans hm11 (fun _ _ e => e))
          have hk' : k < W.heap.size := hkW
          have T11 := hide (Nd.mv hm11 (fun q (hq : W.heap.size ≤ q) (e : q = k) => by omega) _ _ T10.out)
          clear hr11 hm11
          go_wp2_with fail
          go_ret
          rw [ER]
          exact ⟨_, rfl, T11.out, R11.out, M11.out⟩
    | false =>
      rw [b2] at hr
      simp only [Bool.false_eq_true, if_false] at hr
      have HE := hide hr
      clear hr
      go_enter Tryz.func213, Tryz.ntmps213
      go_wp2_with fail
      refine J1.out.mono ?_
      rintro e w0 ⟨rfl, hb0⟩
      have J2 := hide (isAt_any (H.out.later hb0) cNot)
      rw [b2] at J2
      have HB0 := hide hb0
      clear hb0 J1 b2
      go_wp2_with fail
      refine J2.out.mono ?_
      rintro e w1 ⟨rfl, hb1⟩
      have M1 := hide (Mv.of_below (below_on HB0.out hb1) (fun j => j = k))
      have J3 := hide (HP.out w1 B k ws s ((H.out.later HB0.out).later hb1) (by rw [← HE.out]; exact HNE.out))
      rw [← HE.out] at J3
      clear hb1 J2
      go_wp2_with fail
      refine J3.out.mono ?_
      intro e w2 ho
      cases r with
      | out => exact absurd rfl HNE.out
      | no a er =>
        have hp2 := Pn.from ho M1.out
        obtain ⟨q, rfl, -⟩ := ho
        exact ⟨rfl, hp2⟩
      | ok x s1 =>
        obtain ⟨v, rfl, ht, hr2, hm2⟩ := ho
        have R2 := hide hr2
        have M2 := hide (M1.out.trans hm2 (fun _ _ e => e))
        have hz := M1.out.size
        have T2 : Hid (Nd (fun q => W.heap.size ≤ q) w2 x v) := Nd.mono (fun q hq => Nat.le_trans hz hq) _ _ ht
        clear ht hr2 hm2
        go_wp2_with fail
        go_ret
        exact ⟨_, rfl, T2.out, R2.out, M2.out⟩
end Go.Proofs.YtmfoehaeejhlpaaGreatDoor
