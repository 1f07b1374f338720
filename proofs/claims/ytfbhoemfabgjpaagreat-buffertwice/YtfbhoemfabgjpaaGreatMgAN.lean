import Derived.Test.YtfbhoemfabgjpaaGreatBBuf
import Derived.Test.YtfbhoemfabgjpaaGreatMgAG
import Derived.RangeFuncNested
import Derived.RangeFuncLeaves
import Derived.Maps.AppendAt
import Derived.Shelf.Abstract
/-
  Buffer: Put.
-/
namespace Go.Proofs.YtfbhoemfabgjpaaGreat
open Go.RowKit
set_option maxRecDepth 100000
theorem infoCm : (Tryz.prog.info? 38).map (fun i => (i.zero, i.size, i.bytes)) = some (some (.agg #[.int .i64 0, .int .i64 0, .int .i64 0, .int .i64 0, .slice none 0 0, .slice none 0 0]), 6, 80) := by kernel_rfl
theorem news_row {w : World} {g t : Nat} {xs : List Value} (h : w.heap[g]? = some (.cells xs.toArray t (0, 0))) (j : Nat) (u : Value) (hj : xs[j]? = some u) : w.cell? ((⟨g, 0, none⟩ : Addr).add j) = some u := by
  rw [add_at, Nat.zero_add, cell_of_row w g j _ t (0, 0) h]
  simpa using hj
theorem own3 {W W3 : World} {gm m : Nat} {v : Value} {xs : List Value} (h : W.mapTurned W3 gm) (ho : W.ownsRow 0 38 6 v m xs) : W3.ownsRow 0 38 6 v m xs :=
  ((Mv.refl W (fun k => k = gm)).grown h.grown (fun k _ e => by cases e; rfl)).own ho (fun j hj e => by
    obtain ⟨cs, hcs⟩ := own_ty ho hj
    obtain ⟨es, ck, es', ck', h1, -⟩ := h
    rw [e, h1] at hcs
    cases hcs)
section
variable {w : World} {S U : Nat → Prop} {gb gm n sz : Nat} {f : Int × Int → Option Value} {L : Int × Int → List Cm}
theorem Bg.own (h : Bg w S U gb gm n f L sz) (e : Int × Int) : w.ownsRow 0 38 6 ((f e).getD (.slice none 0 0)) (L e).length (czL (L e)) := by
  cases hf : f e with
  | none => rw [h.no e hf]; exact World.ownsRow_nil _ _ _ _
  | some v => exact (h.yes e v hf).2.1
theorem Bg.len (h : Bg w S U gb gm n f L sz) (e : Int × Int) : (L e).length ≤ sz := by
  cases hf : f e with
  | none => rw [h.no e hf]; exact Nat.zero_le _
  | some v => exact (h.yes e v hf).2.2.1
theorem Bg.vb (h : Bg w S U gb gm n f L sz) {e : Int × Int} {j : Nat} (hj : ((f e).getD (.slice none 0 0)).ownBlock = some j) : S j ∧ j ≠ gb ∧ j ≠ gm := by
  cases hf : f e with
  | none => rw [hf] at hj; cases hj
  | some u =>
    rw [hf] at hj
    obtain ⟨-, b, -, d⟩ := h.yes e u hf
    obtain ⟨cs, hcs⟩ := own_ty b hj
    refine ⟨d j hj, fun e1 => ?_, fun e1 => ?_⟩
    · rw [e1, h.row] at hcs
      injection hcs with hcs
      injection hcs with _ h2 _
      exact absurd h2 (by decide)
    · obtain ⟨D, ⟨es, ck, k1, -⟩, -⟩ := h.mp
      rw [e1, k1] at hcs
      cases hcs
set_option maxHeartbeats 16000000 in
theorem bput_any {b : Prop} {P : Nat → Prop} {c : Cm} (h : Bg w S U gb gm n f L sz) (x y g1 : Int) (he : InB (x, y)) (hc : CmOk b w P c) (hsz : sz < 100000) :
    Calls Tryz.prog 8 #[.pointer (some ⟨gb, 0, none⟩), .int .i64 x, .agg #[.int .i64 y, .int .i64 g1], cmV c] w fun r w' => r = .returned (.int .i64 0) ∧ ∃ S' U' n' f' c', (c'.op = c.op ∧ c'.ix = c.ix ∧ c'.gn = c.gn ∧ c'.kd = c.kd ∧ c'.V = c.V ∧ c'.P = c.P) ∧ Bg w' S' U' gb gm n' f' (fun e => if e = (x, y) then L (x, y) ++ [c'] else L e) (sz + 1) ∧ Mv w w' S ∧ (∀ k, S' k → S k ∨ w.heap.size ≤ k) ∧ ∀ k, U' k → U k ∨ w.heap.size ≤ k := by
  obtain ⟨ic, hic, hcz0, hcz1, hcz2⟩ := info_parts infoCm
  have H := hide h
  have HE := hide he
  obtain ⟨qa, qn, qc, pa, pn, pc, e5, e6⟩ := hc.at2
  obtain ⟨op, ix, gn, kd, vs, ps, cV, cP⟩ := c
  have e5 : vs = .slice qa qn qc := e5
  have e6 : ps = .slice pa pn pc := e6
  subst e5 e6
  have HC := hide hc
  obtain ⟨w1, hw1⟩ : ∃ X, X = ((w.alloc (.cells #[.int .i64 y, .int .i64 g1] 34)).alloc (.cells #[.int .i64 op, .int .i64 ix, .int .i64 gn, .int .i64 kd, .slice qa qn qc, .slice pa pn pc] 38)).alloc (.cells #[.int .i64 x, .int .i64 y] 69) := ⟨_, rfl⟩
  have b1 : Below w.heap.size w w1 := by rw [hw1]; exact below_on (below_on (below_alloc w _) (below_alloc _ _)) (below_alloc _ _)
  have B1 := hide b1
  have hgb := h.bs gb h.sb
  have g0 : w.cell? ⟨gb, 1, none⟩ = some (.int .i64 (sz : Int)) := by rw [cell_of_row w _ _ _ 55 (0, 0) h.row]; rfl
  obtain ⟨z, hz⟩ : ∃ z : Int, z = (sz : Int) := ⟨_, rfl⟩
  have tn : ¬ (z ≥ 100000) := by omega
  have HZ : Hid (z = (sz : Int)) := hz
  rw [← hz] at g0
  clear hz
  have HSZ := hide hsz
  unfold cmV cmL
  dsimp only
  obtain ⟨nl, hnl⟩ : ∃ m, m = (L (x, y)).length := ⟨_, rfl⟩
  have HNL := hide hnl
  have ho := h.own (x, y)
  rw [← hnl] at ho
  obtain ⟨va, vc, hvv⟩ := own_len ho
  have hvb : ∀ k, (Value.slice va nl vc).ownBlock = some k → S k ∧ k ≠ gb ∧ k ≠ gm := fun k hk => h.vb (e := (x, y)) (by rw [hvv]; exact hk)
  have HVB := hide hvb
  have HVV := hide hvv
  rw [hvv] at ho
  have HO := hide ho
  have nlb : nl ≤ sz := by rw [hnl]; exact h.len (x, y)
  have HNB := hide nlb
  have hgm := h.bs gm h.sm
  have HGN : Hid (gm < w.heap.size ∧ gb < w.heap.size ∧ gm ≠ gb) := ⟨hgm, hgb, h.gmb⟩
  have JC : Hid (∀ V, Below w.heap.size w V → Calls Tryz.prog 17 #[.agg #[.int .i64 op, .int .i64 ix, .int .i64 gn, .int .i64 kd, .slice qa qn qc, .slice pa pn pc]] V fun e w' => ∃ d' m' q' a' n' p', e = .returned (.agg #[.int .i64 op, .int .i64 ix, .int .i64 gn, .int .i64 kd, .slice d' m' q', .slice a' n' p']) ∧ CmOk True w' (fun j => V.heap.size ≤ j ∧ j < w'.heap.size) ⟨op, ix, gn, kd, .slice d' m' q', .slice a' n' p', cV, cP⟩ ∧ Below V.heap.size V w') := fun V hV => (clonec_any (hc.frame (Mv.of_below hV (fun _ => False)) (fun _ _ e => e))).mono fun e w' ⟨c', e1, ⟨e2, e3, e4, e5, e8, e9⟩, k1, k3⟩ => by
    obtain ⟨d', m', q', a', n', p', e6, e7⟩ := k1.at2
    obtain ⟨op', ix', gn', kd', vs', ps', V', P'⟩ := c'
    have e6 : vs' = .slice d' m' q' := e6
    have e7 : ps' = .slice a' n' p' := e7
    subst e6 e7
    have e2 : op' = op := e2
    have e3 : ix' = ix := e3
    have e4 : gn' = gn := e4
    have e5 : kd' = kd := e5
    have e8 : V' = cV := e8
    have e9 : P' = cP := e9
    subst e2 e3 e4 e5 e8 e9
    exact ⟨d', m', q', a', n', p', e1, k1, k3⟩
  have KE : Hid (∀ V, Below w.heap.size w V → ∃ (st : Nat) (w3 : World), (Instr.mapEntry 53 (.map (some gm)) (.agg #[.int .i64 x, .int .i64 y])).run Tryz.prog V = .ok (.tuple #[.slice va nl vc, .int .i64 (st : Int)]) w3 ∧ V.mapTurned w3 gm ∧
      ∀ (w4 : World) (val : Value), w4.heap[gm]? = w3.heap[gm]? → ∃ w5, (Instr.entryStore 53 (.map (some gm)) (.int .i64 (st : Int)) val).run Tryz.prog w4 = .ok () w5 ∧ w4.mapTurned w5 gm ∧ Mt w5 gm (n + 1) (fun e => if e = (x, y) then some val else f e)) := fun V hV => by
    obtain ⟨st, w3, k1, k2, k3⟩ := (h.mp.same (hV.block gm hgm)).entry (x, y) he (by have := h.nn; omega)
    rw [hvv] at k1
    exact ⟨st, w3, k1, k2, k3⟩
  clear h he hc hsz ho hvv hnl hvb nlb hgm
  go_enter Tryz.func8, Tryz.ntmps8
  go_upto_region 4 with fail
  rw [← hw1]
  have r7 : w1.heap[w.heap.size + 1]? = some (.cells #[.int .i64 op, .int .i64 ix, .int .i64 gn, .int .i64 kd, .slice qa qn qc, .slice pa pn pc] 38 (0, 0)) := by
    rw [hw1]
    refine ((below_alloc ((w.alloc (.cells #[.int .i64 y, .int .i64 g1] 34)).alloc (.cells #[.int .i64 op, .int .i64 ix, .int .i64 gn, .int .i64 kd, .slice qa qn qc, .slice pa pn pc] 38)) _).block (w.heap.size + 1) (by simp)).trans ?_
    have := heap_alloc_new (w.alloc (.cells #[.int .i64 y, .int .i64 g1] 34)) (.cells #[.int .i64 op, .int .i64 ix, .int .i64 gn, .int .i64 kd, .slice qa qn qc, .slice pa pn pc] 38)
    simpa using this
  have r9 : w1.heap[w.heap.size + 1 + 1]? = some (.cells #[.int .i64 x, .int .i64 y] 69 (0, 0)) := by
    rw [hw1]
    have := heap_alloc_new ((w.alloc (.cells #[.int .i64 y, .int .i64 g1] 34)).alloc (.cells #[.int .i64 op, .int .i64 ix, .int .i64 gn, .int .i64 kd, .slice qa qn qc, .slice pa pn pc] 38)) (.cells #[.int .i64 x, .int .i64 y] 69)
    simpa using this
  obtain ⟨k9, hk9⟩ : ∃ k, k = w.heap.size + 1 + 1 := ⟨_, rfl⟩
  obtain ⟨k7, hk7⟩ : ∃ k, k = w.heap.size + 1 := ⟨_, rfl⟩
  obtain ⟨k6, hk6⟩ : ∃ k, k = w.heap.size := ⟨_, rfl⟩
  rw [← hk9] at r9
  rw [← hk7] at r7
  rw [← hk9, ← hk7, ← hk6]
  have rb := (B1.out.block gb hgb).trans H.out.row
  have KS : Hid (∀ V, Mv w1 V (fun k => k = gm ∨ (Value.slice va nl vc).ownBlock = some k) → V.cell? ⟨gb, 0, none⟩ = some (.map (some gm)) ∧ (V.cell? ⟨k9, 0, none⟩ = some (.int .i64 x) ∧ V.cell? ⟨k9, 1, none⟩ = some (.int .i64 y)) ∧ V.cell? ⟨k7, 0, none⟩ = some (.int .i64 op) ∧ V.cell? ⟨k7, 1, none⟩ = some (.int .i64 ix) ∧ V.cell? ⟨k7, 2, none⟩ = some (.int .i64 gn) ∧ V.cell? ⟨k7, 3, none⟩ = some (.int .i64 kd) ∧ V.cell? ⟨k7, 4, none⟩ = some (.slice qa qn qc) ∧ V.cell? ⟨k7, 5, none⟩ = some (.slice pa pn pc)) := fun V hm => by
    have nb : ∀ k, w.heap.size ≤ k → ¬ (k = gm ∨ (Value.slice va nl vc).ownBlock = some k) := fun k hk e => by
      have := HGN.out
      rcases e with e | e
      · omega
      · have := H.out.bs k (HVB.out k e).1
        omega
    have e1 := hm.at rb (fun e => by
      rcases e with e | e
      · exact HGN.out.2.2 e.symm
      · exact (HVB.out gb e).2.1 rfl)
    have e2 := hm.at r9 (nb k9 (by omega))
    have e3 := hm.at r7 (nb k7 (by omega))
    refine ⟨by rw [cell_of_row V _ _ _ 55 (0, 0) e1]; rfl, ⟨by rw [cell_of_row V _ _ _ 69 (0, 0) e2]; rfl, by rw [cell_of_row V _ _ _ 69 (0, 0) e2]; rfl⟩, ?_, ?_, ?_, ?_, ?_, ?_⟩ <;> rw [cell_of_row V _ _ _ 38 (0, 0) e3] <;> rfl
  have s0 := KS.out w1.drew (Mv.of_below (below_drew w1) _)
  have HB7 : Hid (k6 = w.heap.size ∧ k7 = w.heap.size + 1) := ⟨hk6, hk7⟩
  clear hw1 r7 r9 rb hk9 hk7 hk6 g0 tn b1 hgb
  refine wp_region_late (J := fun i => i != 12) (S := (fun V => V.cell? ⟨gb, 0, none⟩ = some (.map (some gm)) ∧ (V.cell? ⟨k9, 0, none⟩ = some (.int .i64 x) ∧ V.cell? ⟨k9, 1, none⟩ = some (.int .i64 y)) ∧ V.cell? ⟨k7, 0, none⟩ = some (.int .i64 op) ∧ V.cell? ⟨k7, 1, none⟩ = some (.int .i64 ix) ∧ V.cell? ⟨k7, 2, none⟩ = some (.int .i64 gn) ∧ V.cell? ⟨k7, 3, none⟩ = some (.int .i64 kd) ∧ V.cell? ⟨k7, 4, none⟩ = some (.slice qa qn qc) ∧ V.cell? ⟨k7, 5, none⟩ = some (.slice pa pn pc))) (by kernel_rfl) (s0) (fun hHeld => ?_)
  refine' wpAnyJ_takeW (i := 0) (oi := { dst := some 19, op := Go.Op.move (Go.Operand.tmp 0), type := 24, pos := "buffer.go:33", after := #[], guard := none }) (v := _) rfl (by kernel_rfl) (by kernel_rfl) (by kernel_rfl) (fun _ _ _ h => h) (Or.inl ⟨by rfl, ?hyj11⟩) ?rej11
  case hyj11 => (intro W hSw; (try dsimp only at hSw); go_simp; try with_reducible rfl)
  try simp only [Act.put, List.setIfInBounds_toArray, List.set_cons_zero, List.set_cons_succ]
  refine' wpAnyJ_takeW (i := 1) (oi := { dst := some 20, op := Go.Op.nilCheck (Go.Operand.tmp 19), type := 0, pos := "buffer.go:33", after := #[{ on := 0, ground := Go.Ground.data }], guard := none }) (v := _) rfl (by kernel_rfl) (by kernel_rfl) (by kernel_rfl) (fun _ _ _ h => h) (Or.inl ⟨by rfl, ?hyj12⟩) ?rej12
  case hyj12 => (intro W hSw; (try dsimp only at hSw); go_simp; try with_reducible rfl)
  try simp only [Act.put, List.setIfInBounds_toArray, List.set_cons_zero, List.set_cons_succ]
  refine' wpAnyJ_takeW (i := 2) (oi := { dst := some 21, op := Go.Op.fieldAddr 55 (Go.Operand.tmp 20) 0, type := 0, pos := "buffer.go:33", after := #[{ on := 1, ground := Go.Ground.data }], guard := none }) (v := _) rfl (by kernel_rfl) (by kernel_rfl) (by kernel_rfl) (fun _ _ _ h => h) (Or.inl ⟨by rfl, ?hyj13⟩) ?rej13
  case hyj13 => (intro W hSw; (try dsimp only at hSw); go_simp; try with_reducible rfl)
  try simp only [Act.put, List.setIfInBounds_toArray, List.set_cons_zero, List.set_cons_succ]
  refine' wpAnyJ_take (i := 3) (oi := { dst := some 22, op := Go.Op.load 53 (Go.Operand.tmp 21), type := 53, pos := "buffer.go:33", after := #[{ on := 2, ground := Go.Ground.data }], guard := none }) (v := _) rfl (by kernel_rfl) (by kernel_rfl) (by kernel_rfl) (by kernel_rfl) (fun _ _ _ h => h) (Or.inl ⟨by rfl, ?hyj14⟩) (by assumption) ?rej14
  case hyj14 => (intro W hSw; (try dsimp only at hSw); go_simp; try with_reducible rfl)
  try simp only [Act.put, List.setIfInBounds_toArray, List.set_cons_zero, List.set_cons_succ]
  refine' wpAnyJ_take (i := 4) (oi := { dst := some 23, op := Go.Op.load 69 (Go.Operand.tmp 9), type := 69, pos := "buffer.go:33", after := #[], guard := none }) (v := _) rfl (by kernel_rfl) (by kernel_rfl) (by kernel_rfl) (by kernel_rfl) (fun _ _ _ h => h) (Or.inl ⟨by rfl, ?hyj15⟩) (by assumption) ?rej15
  case hyj15 => (intro W hSw; (try dsimp only at hSw); go_simp; try with_reducible rfl)
  try simp only [Act.put, List.setIfInBounds_toArray, List.set_cons_zero, List.set_cons_succ]
  refine' wpAnyJ_take (i := 5) (oi := { dst := some 25, op := Go.Op.load 38 (Go.Operand.tmp 7), type := 38, pos := "buffer.go:33", after := #[], guard := none }) (v := _) rfl (by kernel_rfl) (by kernel_rfl) (by kernel_rfl) (by kernel_rfl) (fun _ _ _ h => h) (Or.inl ⟨by rfl, ?hyj16⟩) (by assumption) ?rej16
  case hyj16 => (intro W hSw; (try dsimp only at hSw); go_simp; try with_reducible rfl)
  try simp only [Act.put, List.setIfInBounds_toArray, List.set_cons_zero, List.set_cons_succ]
  refine wpAnyJ_ready (rs := [6]) (by kernel_rfl) (by simp) ?_
  refine AllReadyJ.cons (o := { dst := some 26, op := Go.Op.call { callee := Go.Callee.value (Go.Operand.func 17), args := #[Go.Operand.tmp 25], argTypes := #[38] }, type := 38, pos := "buffer.go:33", after := #[{ on := 5, ground := Go.Ground.data }], guard := none }) rfl (fun K hK => ?_) AllReadyJ.nil
  clear hHeld
  go_simp
  go_at_call 17
  refine (JC.out _ (below_on B1.out (below_drew w1))).mono ?_
  rintro e w2 ⟨d', m', q', a', n', p', rfl, hco, b2⟩
  have H2 := hide (below_on (below_drew w1) b2)
  have HCO := hide hco
  clear hco b2
  refine hK.out _ _ (fun _ _ => KS.out _ (Mv.of_below H2.out _)) ?_
  clear hK K
  try simp only [Act.put, List.setIfInBounds_toArray, List.set_cons_zero, List.set_cons_succ]
  refine wpAnyJ_ready (rs := [7]) (by kernel_rfl) (by simp) ?_
  refine AllReadyJ.cons (o := { dst := some 27, op := Go.Op.buildSlice 45 1 #[(0, Go.Operand.tmp 26)], type := 45, pos := "buffer.go:33", after := #[{ on := 6, ground := Go.Ground.data }], guard := none }) rfl (fun K hK => ?_) AllReadyJ.nil
  go_simp
  refine hK.out _ _ (fun _ _ => KS.out _ ((Mv.of_below H2.out _).alloc _)) ?_
  clear hK K
  try simp only [Act.put, List.setIfInBounds_toArray, List.set_cons_zero, List.set_cons_succ]
  refine wpAnyJ_ready (rs := [8]) (by kernel_rfl) (by simp) ?_
  refine AllReadyJ.cons (o := { dst := some 28, op := Go.Op.mapEntry 53 (Go.Operand.tmp 22) (Go.Operand.tmp 23), type := 0, pos := "buffer.go:33", after := #[{ on := 3, ground := Go.Ground.data }, { on := 4, ground := Go.Ground.data }, { on := 6, ground := Go.Ground.chain }, { on := 0, ground := Go.Ground.phase }, { on := 1, ground := Go.Ground.phase }, { on := 2, ground := Go.Ground.phase }, { on := 3, ground := Go.Ground.phase }, { on := 4, ground := Go.Ground.phase }, { on := 5, ground := Go.Ground.phase }, { on := 6, ground := Go.Ground.phase }, { on := 7, ground := Go.Ground.phase }], guard := none }) rfl (fun K hK => ?_) AllReadyJ.nil
  obtain ⟨st, w3, hr3, ht3, hst⟩ := KE.out (w2.alloc (.cells #[.int .i64 op, .int .i64 ix, .int .i64 gn, .int .i64 kd, .slice d' m' q', .slice a' n' p'] 38)) (below_on (below_on B1.out H2.out) (below_alloc w2 _))
  have HT3 := hide ht3
  have HST := hide hst
  have M3 : Hid (Mv w1 w3 (fun k => k = gm ∨ (Value.slice va nl vc).ownBlock = some k)) := ((Mv.of_below H2.out _).alloc _).grown ht3.grown (fun k _ e => by cases e; exact .inl rfl)
  clear ht3 hst
  go_simp
  refine hK.out _ _ (fun _ _ => KS.out _ M3.out) ?_
  clear hK K
  try simp only [Act.put, List.setIfInBounds_toArray, List.set_cons_zero, List.set_cons_succ]
  refine' wpAnyJ_takeW (i := 9) (oi := { dst := some 24, op := Go.Op.extract (Go.Operand.tmp 28) 0, type := 45, pos := "buffer.go:33", after := #[{ on := 8, ground := Go.Ground.data }], guard := none }) (v := _) rfl (by kernel_rfl) (by kernel_rfl) (by kernel_rfl) (fun _ _ _ h => h) (Or.inl ⟨by rfl, ?hyj17⟩) ?rej17
  case hyj17 => (intro W hSw; (try dsimp only at hSw); go_simp; try with_reducible rfl)
  try simp only [Act.put, List.setIfInBounds_toArray, List.set_cons_zero, List.set_cons_succ]
  refine' wpAnyJ_takeW (i := 11) (oi := { dst := some 30, op := Go.Op.extract (Go.Operand.tmp 28) 1, type := 3, pos := "buffer.go:33", after := #[{ on := 8, ground := Go.Ground.data }], guard := none }) (v := _) rfl (by kernel_rfl) (by kernel_rfl) (by kernel_rfl) (fun _ _ _ h => h) (Or.inl ⟨by rfl, ?hyj18⟩) ?rej18
  case hyj18 => (intro W hSw; (try dsimp only at hSw); go_simp; try with_reducible rfl)
  try simp only [Act.put, List.setIfInBounds_toArray, List.set_cons_zero, List.set_cons_succ]
  refine wpAnyJ_ready (rs := [10]) (by kernel_rfl) (by simp) ?_
  refine AllReadyJ.cons (o := { dst := some 29, op := Go.Op.call { callee := Go.Callee.builtin Go.Builtin.append, args := #[Go.Operand.tmp 24, Go.Operand.tmp 27], argTypes := #[45, 45] }, type := 45, pos := "buffer.go:33", after := #[{ on := 9, ground := Go.Ground.data }, { on := 7, ground := Go.Ground.data }, { on := 8, ground := Go.Ground.chain }], guard := none }) rfl (fun K hK => ?_) AllReadyJ.nil
  refine step_append_lies _ rfl (.tmp 24) (.tmp 27) 45 rfl 0 38 ic (.agg #[.int .i64 0, .int .i64 0, .int .i64 0, .int .i64 0, .slice none 0 0, .slice none 0 0]) 6 80 Tryz.underlying45 hic hcz0 hcz1 hcz2 rfl (by decide) (.slice va nl vc) nl (czL (L (x, y))) (by simp [Act.eval]) ?own ⟨w2.heap.size, 0, none⟩ 1 1 [.int .i64 op, .int .i64 ix, .int .i64 gn, .int .i64 kd, .slice d' m' q', .slice a' n' p'] (by simp [Act.eval]) rfl ?news (by intro u hu; simp at hu; rcases hu with rfl | rfl | rfl | rfl | rfl | rfl <;> rfl) (by omega) (by have := HNB.out; have := HSZ.out; unfold maxLen; omega) (by have := HNB.out; have := HSZ.out; omega) (Nat.zero_le _) _ rfl ?_
  case own => exact own3 HT3.out (own_later HO.out (below_on (below_on B1.out H2.out) (below_alloc w2 _)))
  case news => exact news_row ((HT3.out.grown.block w2.heap.size (by simp) (fun e => by have := HGN.out.1; have := B1.out.size; have := H2.out.size; have e2 := Option.some.inj e; omega)).trans (heap_alloc_new w2 _))
  intro g9 c9 w4 ho4 hg4 ha4 hlt4
  have HW4 := hide (And.intro ho4 (And.intro hg4 (And.intro ha4 hlt4)))
  have M4 : Hid (Mv w1 w4 (fun k => k = gm ∨ (Value.slice va nl vc).ownBlock = some k)) := M3.out.grown hg4 (fun k _ e => .inr e)
  clear ho4 hg4 ha4 hlt4
  refine hK.out _ _ (fun _ _ => KS.out _ M4.out) ?_
  clear hK K
  try simp only [Act.put, List.setIfInBounds_toArray, List.set_cons_zero, List.set_cons_succ]
  refine wpAnyJ_ready (rs := [12]) (by kernel_rfl) (by simp) ?_
  refine AllReadyJ.cons (o := { dst := none, op := Go.Op.entryStore 53 (Go.Operand.tmp 22) (Go.Operand.tmp 30) (Go.Operand.tmp 29), type := 0, pos := "buffer.go:33", after := #[{ on := 3, ground := Go.Ground.data }, { on := 11, ground := Go.Ground.data }, { on := 10, ground := Go.Ground.data }, { on := 10, ground := Go.Ground.chain }, { on := 0, ground := Go.Ground.phase }, { on := 1, ground := Go.Ground.phase }, { on := 2, ground := Go.Ground.phase }, { on := 3, ground := Go.Ground.phase }, { on := 4, ground := Go.Ground.phase }, { on := 5, ground := Go.Ground.phase }, { on := 6, ground := Go.Ground.phase }, { on := 7, ground := Go.Ground.phase }, { on := 8, ground := Go.Ground.phase }, { on := 9, ground := Go.Ground.phase }, { on := 10, ground := Go.Ground.phase }, { on := 11, ground := Go.Ground.phase }], guard := none }) rfl (fun K hK => ?_) AllReadyJ.nil
  obtain ⟨w5, hr5, ht5, hM5⟩ := HST.out w4 (.slice (some ⟨g9, 0, none⟩) (nl + 1) c9) (HW4.out.2.1.block gm (by have := HT3.out.grown.size; have := HGN.out.1; have := B1.out.size; have := H2.out.size; simp at *; omega) (fun e => (HVB.out gm e.symm).2.2 rfl))
  have HT5 := hide ht5
  have HM5 := hide hM5
  clear ht5 hM5
  go_simp
  refine hK.out _ _ (fun h => absurd h (by decide)) ?_
  clear hK K
  try simp only [Act.put, List.setIfInBounds_toArray, List.set_cons_zero, List.set_cons_succ]
  refine wpAnyJ_done (by kernel_rfl) ?_ _
  have M5 : Hid (Mv w1 w5 (fun k => k = gm ∨ (Value.slice va nl vc).ownBlock = some k)) := M4.out.grown HT5.out.grown (fun k _ e => by cases e; exact .inl rfl)
  have rb5 := M5.out.at ((B1.out.block gb HGN.out.2.1).trans H.out.row) (fun e => by
    rcases e with e | e
    · exact HGN.out.2.2 e.symm
    · exact (HVB.out gb e).2.1 rfl)
  have x0 : w5.cell? ⟨gb, 1, none⟩ = some (.int .i64 z) := by rw [HZ.out, cell_of_row w5 _ _ _ 55 (0, 0) rb5]; rfl
  have xf : w5.frozen? ⟨gb, 1, none⟩ = false := frozen_of_row w5 gb 1 _ 55 rb5
  have tz : IntKind.i64.wrap (z + 1) = z + 1 := by
    have := HZ.out
    have := HSZ.out
    rw [IntKind.wrap_i64]
    omega
  obtain ⟨w6, hw6⟩ : ∃ X, X = w5.setCell ⟨gb, 1, none⟩ (.int .i64 (z + 1)) := ⟨_, rfl⟩
  have RES : Hid (∃ S' U' n' f' c', (c'.op = op ∧ c'.ix = ix ∧ c'.gn = gn ∧ c'.kd = kd ∧ c'.V = cV ∧ c'.P = cP) ∧ Bg w6 S' U' gb gm n' f' (fun e => if e = (x, y) then L (x, y) ++ [c'] else L e) (sz + 1) ∧ Mv w w6 S ∧ (∀ k, S' k → S k ∨ w.heap.size ≤ k) ∧ ∀ k, U' k → U k ∨ w.heap.size ≤ k) := by
    have e := HNL.out
    subst e
    have s1 := B1.out.size
    have s2 := H2.out.size
    have hb : Below w.heap.size w (w2.alloc (.cells #[.int .i64 op, .int .i64 ix, .int .i64 gn, .int .i64 kd, .slice d' m' q', .slice a' n' p'] 38)) := below_on (below_on B1.out H2.out) (below_alloc w2 _)
    have hco : CmOk True (w2.alloc (.cells #[.int .i64 op, .int .i64 ix, .int .i64 gn, .int .i64 kd, .slice d' m' q', .slice a' n' p'] 38)) (fun k => w.heap.size ≤ k ∧ k < (w2.alloc (.cells #[.int .i64 op, .int .i64 ix, .int .i64 gn, .int .i64 kd, .slice d' m' q', .slice a' n' p'] 38)).heap.size) ⟨op, ix, gn, kd, .slice d' m' q', .slice a' n' p', cV, cP⟩ := (HCO.out.frame (Mv.of_below (below_alloc w2 _) (fun _ => False)) (fun _ _ e => e)).wide (fun j hj => by
      have h1 : w1.heap.size ≤ j := hj.1
      have h2 := hj.2
      simp
      omega)
    obtain ⟨k1, k2⟩ := Bg.put (w5 := w6) H.out HE.out hb hco HVV.out.symm ((Mv.refl _ (fun k => k = gm)).grown HT3.out.grown (fun k _ e => by cases e; rfl)) HW4.out.1 HW4.out.2.1 HW4.out.2.2.1 HW4.out.2.2.2 HT5.out HM5.out (by rw [hw6, HZ.out])
    have s3 := HT3.out.grown.size
    refine ⟨_, _, _, _, _, ⟨rfl, rfl, rfl, rfl, rfl, rfl⟩, k1, k2, fun k hk => ?_, fun k hk => ?_⟩
    · rcases hk with hk | rfl
      · exact .inl hk
      · rcases HW4.out.2.2.1 with e | e
        · exact .inl (HVB.out _ e).1
        · right
          simp at s3
          omega
    · rcases hk with hk | hk
      · exact .inl hk
      · exact .inr hk.1
  clear M5 rb5
  go_wp2_with fail
  rw [← hw6]
  go_ret
  exact ⟨rfl, RES.out⟩
end
end Go.Proofs.YtfbhoemfabgjpaaGreat

/-
  Buffer: an iterator's keys, collected.
-/
namespace Go.Proofs.YtfbhoemfabgjpaaGreat
open Go.RowKit Go.Maps Go.Sort Go.Shelf
set_option maxRecDepth 100000
attribute [local go_sem] Oper.semAt_some
theorem infoTn : (Tryz.prog.info? 69).map (fun i => (i.zero, i.size, i.bytes)) = some (some (.agg #[.int .i64 0, .int .i64 0]), 2, 16) := by kernel_rfl
theorem cell_two_new (w : World) (x y : Value) (t : TypeId) : ∀ j u, [x, y][j]? = some u → (w.alloc (.cells #[x, y] t)).cell? ((⟨w.heap.size, 0, none⟩ : Addr).add j) = some u := by
  intro j u hj
  rw [add_at, Nat.zero_add, cell_of_row (w.alloc (.cells #[x, y] t)) _ j _ t (0, 0) (heap_alloc_new w _)]
  simpa using hj
set_option maxHeartbeats 4000000 in
/-- slices.AppendSeq(nil, seq): what the iterator gives, in that order. -/
theorem appseq_in (n : Nat) (hn : 3 ≤ n) (gf : Nat) (lb : Array Value) (eg : ∀ args w, (callFunc gf args).run Tryz.prog w = .ok (.enter gf args) w) (S Sp : List (Int × Int) → Prop) (N : Nat) (hN : N ≤ 1000000) (w : World) (hseq : SeqStopsK Fence.wide (n - 1) Tryz.prog gf lb (fun x => #[evz x]) KeepsWalks S Sp N w) :
    CallsIn Fence.wide n Tryz.prog 85 #[.slice none 0 0, .func (.func gf) #[] lb] w fun e w' => ∃ (v : Value) (ss : List (Int × Int)), e = .returned v ∧ S ss ∧ w'.ownsRow w.heap.size 69 2 v ss.length (ez ss) ∧ (v = .slice none 0 0 ↔ ss = []) ∧ Below w.heap.size w w' := by
  have h1 : 1 ≤ n := by omega
  obtain ⟨i0, hi, hz0, hz1, hz2⟩ := info_parts infoTn
  refine callsIn_of_wp_marks Tryz.func85 rfl trivial ?_ rfl
  simp only [Tryz.ntmps85, List.size_toArray, List.length_cons, List.length_nil, Nat.reduceAdd, Nat.reduceSub, Array.replicate_succ, Array.replicate_zero, List.push_toArray, List.append_toArray, List.nil_append, List.cons_append]
  gi_wp2
  have bO := Boxed.new w 95 (.slice none 0 0)
  have hB0 : Below w.heap.size w (w.alloc (.cells #[.slice none 0 0] 95)) := (Below.refl _ w).alloc (Nat.le_refl _) _
  refine wpIn_rangeFunc_ownH rfl h1 (gf := gf) (lb := lb) rfl trivial eg hseq walksK_t walksK_b hB0 (fun _ => rfl)
    (fun pre W => (∃ v, Boxed W w.heap.size 95 v ∧ W.ownsRow w.heap.size 69 2 v pre.length (ez pre) ∧ (v = .slice none 0 0 ↔ pre = [])) ∧ Below w.heap.size w W)
    (fun _ _ _ => False)
    (OwnFrom.and (Own.from (holdsRow_own w.heap.size w.heap.size 95 69 2 (fun pre => pre.length) (fun pre => ez pre) (fun pre v => v = .slice none 0 0 ↔ pre = [])) _) (ownFrom_below (Nat.le_refl _) (by simp)))
    (fun _ _ _ _ _ hs _ _ => hs)
    ⟨⟨_, bO, World.ownsRow_nil _ _ _ _, by simp⟩, hB0⟩
    (fun x a' W => ∃ Bx, w.heap.size < Bx ∧ W.heap[Bx]? = some (.cells #[.int .i64 x.1, .int .i64 x.2] 69 (0, 0)) ∧ a' = { tmps := #[.slice none 0 0, .func (.func gf) #[] lb, .pointer (some ⟨w.heap.size, 0, none⟩), undef, .slice none 0 0, .pointer (some ⟨Bx, 0, none⟩), .func (.func gf) #[] lb, .agg #[.int .i64 x.1, .int .i64 x.2], undef, undef, undef, undef, undef], defers := [] })
    (fun x a' => Own.from (fun _ A B row hs hg hr => by
      obtain ⟨Bx, k1, k2, k3⟩ := hs
      exact ⟨Bx, k1, (hg.block Bx (lt_of_block k2) (fun e => by
        obtain ⟨o, ho, hc⟩ := hr Bx e.symm
        rw [k2] at ho
        cases ho
        cases hc)).trans k2, k3⟩) _) ?assign ?body ?done ?stop
  case assign =>
    rintro l pre ⟨x, y⟩ W K ⟨⟨v, hv, hrow, hnil⟩, hB⟩ hK
    dsimp only [evz]
    gi_wp2
    exact hK _ _ ((KeepsOthers.alloc _ _).from _) (KeepsWalks.alloc _ _) ⟨⟨v, hv.alloc _, hrow.alloc _, hnil⟩, below_on hB (below_alloc W _)⟩ ⟨W.heap.size, hv.lt, heap_alloc_new W _, rfl⟩
  case body =>
    rintro l pre ⟨x, y⟩ a' W hl ⟨r, hr⟩ ⟨⟨v, hv, hrow, hnil⟩, hB⟩ ⟨Bx, hBx, bX, rfl⟩ hlt
    have hc := hv.cell
    have x0 : W.cell? ⟨Bx, 0, none⟩ = some (.int .i64 x) := by rw [cell_of_row W _ _ _ 69 (0, 0) bX]; rfl
    have x1 : W.cell? ⟨Bx, 1, none⟩ = some (.int .i64 y) := by rw [cell_of_row W _ _ _ 69 (0, 0) bX]; rfl
    gi_wp2_with (gi_at_builtin; refine wpListIn_append_own _ rfl _ _ 95 rfl w.heap.size 69 i0 (.agg #[.int .i64 0, .int .i64 0]) 2 16 Tryz.underlying95 hi hz0 hz1 hz2 rfl (by decide) _ _ _ rfl (hrow.alloc _) ⟨W.heap.size, 0, none⟩ 1 1 [.int .i64 x, .int .i64 y] rfl rfl (cell_two_new _ _ _ _) (by intro u hu; simp at hu; rcases hu with rfl | rfl <;> rfl) (by unfold maxLen; omega) (by omega) (by have := hB.size; simp; omega) ?_; intro v' w1 hown' hgrow _; obtain ⟨g', cap', rfl⟩ := ownsRow_succ hown'; obtain ⟨hv1, hv2, hr2, hk2, hb2⟩ := hv.appended (by decide) hrow hB.size (Nat.le_refl _) hown' hgrow; have hc1 := hv1.cell; have hf1 := hv1.frozen)
    exact ⟨hk2.from _, hk2.walks, ⟨_, hv2, by rw [ez_append, List.length_append]; exact hr2, by simp⟩, hB.trans hb2⟩
  case done =>
    rintro D ys W hD hS ⟨⟨v, hv, hrow, hnil⟩, hB⟩ hK
    have hc := hv.cell
    gi_wp2
    refine ⟨by simp, .inl ⟨_, _, rfl, run_takeDeferred hK, ?_⟩⟩
    exact ⟨_, results_tmp rfl _ _ _, v, ys, rfl, hS, ownsRow_putObj hrow _ hK rfl, hnil, hB.trans (belowK_b (w := w) (Nat.le_refl _) W D _ _ (by simp at hD; omega) hK rfl rfl)⟩
  case stop =>
    rintro D c pre W _ _ h _
    exact h.elim
end Go.Proofs.YtfbhoemfabgjpaaGreat

/-
  Buffer: a map's turns, in order.
-/
namespace Go.Proofs.YtfbhoemfabgjpaaGreat
open Go.RowKit Go.Maps Go.Sort Go.Shelf
set_option maxRecDepth 100000
theorem own_raise {w : World} {B B' e s n : Nat} {v : Value} {xs : List Value} (h : w.ownsRow B e s v n xs) (hb : ∀ j, v.ownBlock = some j → B' ≤ j) : w.ownsRow B' e s v n xs := by
  refine ⟨h.1, ?_⟩
  rcases h.2 with h0 | ⟨g, c, cur, rfl, h1, h2⟩
  · exact .inl h0
  · exact .inr ⟨g, c, cur, rfl, hb g rfl, h2⟩
theorem collect_in (n : Nat) (hn : 4 ≤ n) (gf : Nat) (lb : Array Value) (eg : ∀ args w, (callFunc gf args).run Tryz.prog w = .ok (.enter gf args) w) (S Sp : List (Int × Int) → Prop) (N : Nat) (hN : N ≤ 1000000) (w : World) (hseq : SeqStopsK Fence.wide (n - 1 - 1) Tryz.prog gf lb (fun x => #[evz x]) KeepsWalks S Sp N w) :
    CallsIn Fence.wide n Tryz.prog 61 #[.func (.func gf) #[] lb] w fun e w' => ∃ (v : Value) (ss : List (Int × Int)), e = .returned v ∧ S ss ∧ w'.ownsRow w.heap.size 69 2 v ss.length (ez ss) ∧ (v = .slice none 0 0 ↔ ss = []) ∧ Below w.heap.size w w' := by
  refine callsIn_of_wp Tryz.func61 rfl trivial ?_ rfl
  simp only [Tryz.ntmps61, List.size_toArray, List.length_cons, List.length_nil, Nat.reduceAdd, Nat.reduceSub, Array.replicate_succ, Array.replicate_zero, List.push_toArray, List.append_toArray, List.nil_append, List.cons_append]
  gi_wp2_with fail
  refine ⟨trivial, (fun h => by cases h), (appseq_in (n - 1) (by omega) gf lb eg S Sp N hN _ hseq).mono ?_⟩
  rintro e w' ⟨v, ss, rfl, hS, hrow, hnil, hb⟩
  gi_wp2_with fail
  go_ret
  exact ⟨v, ss, rfl, hS, hrow, hnil, hb⟩
theorem keys_any (gm : Nat) (w : World) : Calls Tryz.prog 36 #[.map (some gm)] w fun e w' => e = .returned (.func (.func 63) #[] #[.pointer (some ⟨w.heap.size, 0, none⟩)]) ∧ w' = w.alloc (.cells #[.map (some gm)] 53) := by
  go_enter Tryz.func36, Tryz.ntmps36
  go_wp2_with fail
  go_ret
  exact ⟨rfl, rfl⟩
theorem lt_of_not {x y : Int × Int} (h : ¬ ltT y x) (hne : x ≠ y) : ltT x y := by
  unfold ltT at *
  have : ¬ (x.1 = y.1 ∧ x.2 = y.2) := fun e => hne (Prod.ext e.1 e.2)
  omega
set_option maxHeartbeats 4000000 in
/-- slices.SortedFunc(maps.Keys(m), compareTurns). -/
theorem sorted_any {w : World} {Bm gm n : Nat} {f : Int × Int → Option Value} (hB : Bm < w.heap.size) (hm : w.cell? ⟨Bm, 0, none⟩ = some (.map (some gm))) (hM : Mt w gm n f) (hn : n ≤ 1000000) :
    Calls Tryz.prog 35 #[.func (.func 63) #[] #[.pointer (some ⟨Bm, 0, none⟩)], .func (.func 19) #[] #[]] w fun e w' => ∃ (v : Value) (ss : List (Int × Int)), e = .returned v ∧ (∀ x, x ∈ ss ↔ InB x ∧ (f x).isSome = true) ∧ ss.Pairwise ltT ∧ ss.length ≤ n ∧ w'.ownsRow w.heap.size 69 2 v ss.length (ez ss) ∧ Below w.heap.size w w' := by
  obtain ⟨D, hD, h2, hz⟩ := hM
  have hsz := hD.size_le
  have JC : Hid (Calls Tryz.prog 61 #[.func (.func 63) #[] #[.pointer (some ⟨Bm, 0, none⟩)]] w fun e w' => ∃ (v : Value) (ss : List (Int × Int)), e = .returned v ∧ (ss.Nodup ∧ (∀ x, x ∈ ss ↔ InB x ∧ (f x).isSome = true) ∧ ss.length ≤ n) ∧ w'.ownsRow w.heap.size 69 2 v ss.length (ez ss) ∧ Below w.heap.size w w') := by
    refine (callsIn_wide (n := 6)).1 ?_
    refine (collect_in 6 (by omega) _ _ (enters_of Tryz.func63 (by kernel_rfl) rfl) _ _ _ (by omega) w (keys_stops 4 (by omega) Bm gm n D w hB hm hD hz)).mono ?_
    rintro e w' ⟨v, ss, e1, hS, k1, -, k2⟩
    obtain ⟨hS, hSl⟩ := hS
    refine ⟨v, ss, e1, ⟨hS.1, fun x => (hS.2 x).trans ⟨fun ⟨kl, a, b, c, _⟩ => ⟨a, by rw [← (h2 x a kl b).1]; exact c⟩, fun ⟨a, b⟩ => ?_⟩, by omega⟩, k1, k2⟩
    obtain ⟨kl, hkl⟩ := key_ofT x a
    exact ⟨kl, a, hkl, by rw [(h2 x a kl hkl).1]; exact b, rfl⟩
  have JS : Hid (∀ (W : World) (v : Value) (l : List (Int × Int)), W.ownsRow 0 69 2 v l.length (ez l) → l.length ≤ 1000000 → Calls Tryz.prog 62 #[v, .func (.func 19) #[] #[]] W fun e w' => e = .returned (.tuple #[]) ∧ ∃ l', l'.Perm l ∧ l'.Pairwise (fun x y => ¬ ltT y x) ∧ w'.ownsRow 0 69 2 v l.length (ez l') ∧ W.grownBy w' v.ownBlock) := fun W v l h1 h2 => rsort_any h1 h2
  clear hD h2 hz hB hm hsz
  go_enter Tryz.func35, Tryz.ntmps35
  go_wp2_with fail
  refine JC.out.mono ?_
  rintro e w1 ⟨v, ss, rfl, hS, k1, b1⟩
  obtain ⟨a, c, rfl⟩ := own_len k1
  have H1 := hide (And.intro hS (And.intro k1 b1))
  have J2 := hide (JS.out w1 _ ss (own_lower k1 (Nat.zero_le _)) (by have := hS.2.2; omega))
  clear hS k1 b1 JC JS
  go_wp2_with fail
  refine J2.out.mono ?_
  rintro e w2 ⟨rfl, l', hp, hs, k2, hg⟩
  have H2 := hide (And.intro hp (And.intro hs (And.intro k2 hg)))
  clear hp hs k2 hg J2
  go_wp2_with fail
  go_ret
  obtain ⟨⟨hnd, hmem, hlen⟩, k1, b1⟩ := H1.out
  obtain ⟨hp, hs, k2, hg⟩ := H2.out
  have hll := hp.length_eq
  refine ⟨_, l', rfl, fun x => hp.mem_iff.trans (hmem x), ?_, by rw [hll]; exact hlen, by rw [hll]; exact own_raise k2 (fun j e => (k1.lt j e).1), b1.grown hg b1.size (fun k e => (k1.lt k e).1)⟩
  have hnd' := hp.nodup_iff.2 hnd
  exact (hs.and hnd').imp (fun ⟨h1, h2⟩ => lt_of_not h1 h2)
end Go.Proofs.YtfbhoemfabgjpaaGreat
