/-
  Buffer: Put.
-/
import Derived.Test.YtiolaenkfhcajaaGreatBBuf
namespace Go.Proofs.YtiolaenkfhcajaaGreat
open Go.RowKit
set_option maxRecDepth 100000
theorem infoCm : (Tryz.prog.info? 40).map (fun i => (i.zero, i.size, i.bytes)) = some (some (.agg #[.int .i64 0, .int .i64 0, .int .i64 0, .int .i64 0, .slice none 0 0, .slice none 0 0]), 6, 80) := by kernel_rfl
theorem CmOk.at {w : World} {U : Nat → Prop} {c : Cm} (h : CmOk w U c) : ∃ a n cp, c = ⟨c.op, c.ix, c.gn, c.kd, .slice none 0 0, .slice a n cp⟩ := by
  obtain ⟨op, ix, gn, kd, vs, ps⟩ := c
  obtain ⟨h1, h2⟩ := h
  have h1 : vs = .slice none 0 0 := h1
  subst h1
  rcases h2 with h2 | ⟨k, V, ⟨⟨p, hp, -⟩, -⟩, -⟩
  · have h2 : ps = .slice none 0 0 := h2
    subst h2
    exact ⟨_, _, _, rfl⟩
  · rcases hp with ⟨-, e⟩ | ⟨g, o, cp, e, -⟩
    · cases e
    · have e : ps = _ := e
      subst e
      exact ⟨_, _, _, rfl⟩
/-- cloneCommand, of a command that may lie in a buffer. -/
theorem clonec_any {w : World} {P : Nat → Prop} {c : Cm} (h : CmOk w P c) : Calls Tryz.prog 17 #[cmV c] w fun e w' => ∃ c', e = .returned (cmV c') ∧ (c'.op = c.op ∧ c'.ix = c.ix ∧ c'.gn = c.gn ∧ c'.kd = c.kd) ∧ CmOk w' (fun j => w.heap.size ≤ j ∧ j < w'.heap.size) c' ∧ (c.ps = .slice none 0 0 → c' = c) ∧ (c'.ps = .slice none 0 0 → c.ps = .slice none 0 0) ∧ Below w.heap.size w w' := by
  obtain ⟨op, ix, gn, kd, vs, ps⟩ := c
  obtain ⟨h1, h2⟩ := h
  have h1 : vs = .slice none 0 0 := h1
  subst h1
  rcases h2 with h2 | ⟨k, V, h2, hV⟩
  · have h2 : ps = .slice none 0 0 := h2
    subst h2
    exact (clonec_nil op ix gn kd w).mono fun e w' ⟨e1, b⟩ => ⟨_, e1, ⟨rfl, rfl, rfl, rfl⟩, ⟨rfl, .inl rfl⟩, fun _ => rfl, fun _ => rfl, b⟩
  · refine (clonec_one h2 hV.1 op ix gn kd).mono fun e w' ⟨v', e1, h3, b⟩ => ⟨_, e1, ⟨rfl, rfl, rfl, rfl⟩, ⟨rfl, .inr ⟨k, V, h3, hV⟩⟩, fun hn => ?_, fun hn => ?_, b⟩
    · exfalso
      have hn : ps = .slice none 0 0 := hn
      subst hn
      obtain ⟨⟨p, hp, -⟩, -⟩ := h2
      rcases hp with ⟨-, e⟩ | ⟨g, o, cp, e, -⟩
      · cases e
      · cases e
    · exfalso
      have hn : v' = .slice none 0 0 := hn
      subst hn
      obtain ⟨⟨p, hp, -⟩, -⟩ := h3
      rcases hp with ⟨-, e⟩ | ⟨g, o, cp, e, -⟩
      · cases e
      · cases e
theorem news_row {w : World} {g t : Nat} {xs : List Value} (h : w.heap[g]? = some (.cells xs.toArray t (0, 0))) (j : Nat) (u : Value) (hj : xs[j]? = some u) : w.cell? ((⟨g, 0, none⟩ : Addr).add j) = some u := by
  rw [add_at, Nat.zero_add, cell_of_row w g j _ t (0, 0) h]
  simpa using hj
theorem own3 {W W3 : World} {gm m : Nat} {v : Value} {xs : List Value} (h : W.mapTurned W3 gm) (ho : W.ownsRow 0 40 6 v m xs) : W3.ownsRow 0 40 6 v m xs :=
  ((Mv.refl W (fun k => k = gm)).grown h.grown (fun k _ e => by cases e; rfl)).own ho (fun j hj e => by
    obtain ⟨cs, hcs⟩ := own_ty ho hj
    obtain ⟨es, ck, es', ck', h1, -⟩ := h
    rw [e, h1] at hcs
    cases hcs)
section
variable {w : World} {S U : Nat → Prop} {gb gm n sz : Nat} {f : Int × Int → Option Value} {L : Int × Int → List Cm}
theorem Bg.own (h : Bg w S U gb gm n f L sz) (e : Int × Int) : w.ownsRow 0 40 6 ((f e).getD (.slice none 0 0)) (L e).length (czL (L e)) := by
  cases hf : f e with
  | none => rw [h.no e hf]; exact World.ownsRow_nil _ _ _ _
  | some v => exact (h.yes e v hf).2.1
theorem Bg.len (h : Bg w S U gb gm n f L sz) (e : Int × Int) : (L e).length ≤ sz := by
  cases hf : f e with
  | none => rw [h.no e hf]; exact Nat.zero_le _
  | some v => exact (h.yes e v hf).2.2.1
theorem Bg.vb (h : Bg w S U gb gm n f L sz) {e : Int × Int} {j : Nat} (hj : ((f e).getD (.slice none 0 0)).ownBlock = some j) : S j ∧ j ≠ gb ∧ j ≠ gm := by
  cases hf : f e with
  | none => rw [hf] at hj; cases hj
  | some u =>
    rw [hf] at hj
    obtain ⟨-, b, -, d⟩ := h.yes e u hf
    obtain ⟨cs, hcs⟩ := own_ty b hj
    refine ⟨d j hj, fun e1 => ?_, fun e1 => ?_⟩
    · rw [e1, h.row] at hcs
      injection hcs with hcs
      injection hcs with _ h2 _
      exact absurd h2 (by decide)
    · obtain ⟨D, ⟨es, ck, k1, -⟩, -⟩ := h.mp
      rw [e1, k1] at hcs
      cases hcs
set_option maxHeartbeats 16000000 in
theorem bput_any {P : Nat → Prop} {c : Cm} (h : Bg w S U gb gm n f L sz) (x y g1 : Int) (he : InB (x, y)) (hc : CmOk w P c) (hsz : sz < 100000) :
    Calls Tryz.prog 9 #[.pointer (some ⟨gb, 0, none⟩), .int .i64 x, .agg #[.int .i64 y, .int .i64 g1], cmV c] w fun r w' => r = .returned (.int .i64 0) ∧ ∃ S' U' n' f' c', (c'.op = c.op ∧ c'.ix = c.ix ∧ c'.gn = c.gn ∧ c'.kd = c.kd ∧ (c.ps = .slice none 0 0 → c' = c) ∧ (c'.ps = .slice none 0 0 → c.ps = .slice none 0 0)) ∧ Bg w' S' U' gb gm n' f' (fun e => if e = (x, y) then L (x, y) ++ [c'] else L e) (sz + 1) ∧ Mv w w' S ∧ (∀ k, S' k → S k ∨ w.heap.size ≤ k) ∧ ∀ k, U' k → U k ∨ w.heap.size ≤ k := by
  obtain ⟨ic, hic, hcz0, hcz1, hcz2⟩ := info_parts infoCm
  have H := hide h
  have HE := hide he
  obtain ⟨pa, pn, pc, hcc⟩ := hc.at
  obtain ⟨op, ix, gn, kd, vs, ps⟩ := c
  injection hcc with _ _ _ _ e5 e6
  subst e5 e6
  have HC := hide hc
  obtain ⟨w1, hw1⟩ : ∃ X, X = ((w.alloc (.cells #[.int .i64 y, .int .i64 g1] 36)).alloc (.cells #[.int .i64 op, .int .i64 ix, .int .i64 gn, .int .i64 kd, .slice none 0 0, .slice pa pn pc] 40)).alloc (.cells #[.int .i64 x, .int .i64 y] 68) := ⟨_, rfl⟩
  have b1 : Below w.heap.size w w1 := by rw [hw1]; exact below_on (below_on (below_alloc w _) (below_alloc _ _)) (below_alloc _ _)
  have B1 := hide b1
  have hgb := h.bs gb h.sb
  have g0 : w.cell? ⟨gb, 1, none⟩ = some (.int .i64 (sz : Int)) := by rw [cell_of_row w _ _ _ 54 (0, 0) h.row]; rfl
  obtain ⟨z, hz⟩ : ∃ z : Int, z = (sz : Int) := ⟨_, rfl⟩
  have tn : ¬ (z ≥ 100000) := by omega
  have HZ : Hid (z = (sz : Int)) := hz
  rw [← hz] at g0
  clear hz
  have HSZ := hide hsz
  unfold cmV cmL
  dsimp only
  obtain ⟨nl, hnl⟩ : ∃ m, m = (L (x, y)).length := ⟨_, rfl⟩
  have HNL := hide hnl
  have ho := h.own (x, y)
  rw [← hnl] at ho
  obtain ⟨va, vc, hvv⟩ := own_len ho
  have hvb : ∀ k, (Value.slice va nl vc).ownBlock = some k → S k ∧ k ≠ gb ∧ k ≠ gm := fun k hk => h.vb (e := (x, y)) (by rw [hvv]; exact hk)
  have HVB := hide hvb
  have HVV := hide hvv
  rw [hvv] at ho
  have HO := hide ho
  have nlb : nl ≤ sz := by rw [hnl]; exact h.len (x, y)
  have HNB := hide nlb
  have hgm := h.bs gm h.sm
  have HGN : Hid (gm < w.heap.size ∧ gb < w.heap.size ∧ gm ≠ gb) := ⟨hgm, hgb, h.gmb⟩
  have JC : Hid (∀ V, Below w.heap.size w V → Calls Tryz.prog 17 #[.agg #[.int .i64 op, .int .i64 ix, .int .i64 gn, .int .i64 kd, .slice none 0 0, .slice pa pn pc]] V fun e w' => ∃ a' n' p', e = .returned (.agg #[.int .i64 op, .int .i64 ix, .int .i64 gn, .int .i64 kd, .slice none 0 0, .slice a' n' p']) ∧ CmOk w' (fun j => V.heap.size ≤ j ∧ j < w'.heap.size) ⟨op, ix, gn, kd, .slice none 0 0, .slice a' n' p'⟩ ∧ ((Value.slice pa pn pc) = .slice none 0 0 ↔ (Value.slice a' n' p') = .slice none 0 0) ∧ Below V.heap.size V w') := fun V hV => (clonec_any (hc.frame (Mv.of_below hV (fun _ => False)) (fun _ _ e => e))).mono fun e w' ⟨c', e1, ⟨e2, e3, e4, e5⟩, k1, k2, k4, k3⟩ => by
    obtain ⟨a', n', p', hcc⟩ := k1.at
    obtain ⟨op', ix', gn', kd', vs', ps'⟩ := c'
    injection hcc with _ _ _ _ e6 e7
    subst e6 e7
    have e2 : op' = op := e2
    have e3 : ix' = ix := e3
    have e4 : gn' = gn := e4
    have e5 : kd' = kd := e5
    subst e2 e3 e4 e5
    refine ⟨a', n', p', e1, k1, ⟨fun hn => ?_, fun hn => k4 hn⟩, k3⟩
    have := congrArg Cm.ps (k2 hn)
    exact this.trans hn
  have KE : Hid (∀ V, Below w.heap.size w V → ∃ (st : Nat) (w3 : World), (Instr.mapEntry 52 (.map (some gm)) (.agg #[.int .i64 x, .int .i64 y])).run Tryz.prog V = .ok (.tuple #[.slice va nl vc, .int .i64 (st : Int)]) w3 ∧ V.mapTurned w3 gm ∧
      ∀ (w4 : World) (val : Value), w4.heap[gm]? = w3.heap[gm]? → ∃ w5, (Instr.entryStore 52 (.map (some gm)) (.int .i64 (st : Int)) val).run Tryz.prog w4 = .ok () w5 ∧ w4.mapTurned w5 gm ∧ Mt w5 gm (n + 1) (fun e => if e = (x, y) then some val else f e)) := fun V hV => by
    obtain ⟨st, w3, k1, k2, k3⟩ := (h.mp.same (hV.block gm hgm)).entry (x, y) he (by have := h.nn; omega)
    rw [hvv] at k1
    exact ⟨st, w3, k1, k2, k3⟩
  clear h he hc hsz ho hvv hnl hvb nlb hgm
  go_enter Tryz.func9, Tryz.ntmps9
  go_upto_region 4 with fail
  rw [← hw1]
  have r7 : w1.heap[w.heap.size + 1]? = some (.cells #[.int .i64 op, .int .i64 ix, .int .i64 gn, .int .i64 kd, .slice none 0 0, .slice pa pn pc] 40 (0, 0)) := by
    rw [hw1]
    refine ((below_alloc ((w.alloc (.cells #[.int .i64 y, .int .i64 g1] 36)).alloc (.cells #[.int .i64 op, .int .i64 ix, .int .i64 gn, .int .i64 kd, .slice none 0 0, .slice pa pn pc] 40)) _).block (w.heap.size + 1) (by simp)).trans ?_
    have := heap_alloc_new (w.alloc (.cells #[.int .i64 y, .int .i64 g1] 36)) (.cells #[.int .i64 op, .int .i64 ix, .int .i64 gn, .int .i64 kd, .slice none 0 0, .slice pa pn pc] 40)
    simpa using this
  have r9 : w1.heap[w.heap.size + 1 + 1]? = some (.cells #[.int .i64 x, .int .i64 y] 68 (0, 0)) := by
    rw [hw1]
    have := heap_alloc_new ((w.alloc (.cells #[.int .i64 y, .int .i64 g1] 36)).alloc (.cells #[.int .i64 op, .int .i64 ix, .int .i64 gn, .int .i64 kd, .slice none 0 0, .slice pa pn pc] 40)) (.cells #[.int .i64 x, .int .i64 y] 68)
    simpa using this
  obtain ⟨k9, hk9⟩ : ∃ k, k = w.heap.size + 1 + 1 := ⟨_, rfl⟩
  obtain ⟨k7, hk7⟩ : ∃ k, k = w.heap.size + 1 := ⟨_, rfl⟩
  obtain ⟨k6, hk6⟩ : ∃ k, k = w.heap.size := ⟨_, rfl⟩
  rw [← hk9] at r9
  rw [← hk7] at r7
  rw [← hk9, ← hk7, ← hk6]
  have rb := (B1.out.block gb hgb).trans H.out.row
  have KS : Hid (∀ V, Mv w1 V (fun k => k = gm ∨ (Value.slice va nl vc).ownBlock = some k) → V.cell? ⟨gb, 0, none⟩ = some (.map (some gm)) ∧ (V.cell? ⟨k9, 0, none⟩ = some (.int .i64 x) ∧ V.cell? ⟨k9, 1, none⟩ = some (.int .i64 y)) ∧ V.cell? ⟨k7, 0, none⟩ = some (.int .i64 op) ∧ V.cell? ⟨k7, 1, none⟩ = some (.int .i64 ix) ∧ V.cell? ⟨k7, 2, none⟩ = some (.int .i64 gn) ∧ V.cell? ⟨k7, 3, none⟩ = some (.int .i64 kd) ∧ V.cell? ⟨k7, 4, none⟩ = some (.slice none 0 0) ∧ V.cell? ⟨k7, 5, none⟩ = some (.slice pa pn pc)) := fun V hm => by
    have nb : ∀ k, w.heap.size ≤ k → ¬ (k = gm ∨ (Value.slice va nl vc).ownBlock = some k) := fun k hk e => by
      have := HGN.out
      rcases e with e | e
      · omega
      · have := H.out.bs k (HVB.out k e).1
        omega
    have e1 := hm.at rb (fun e => by
      rcases e with e | e
      · exact HGN.out.2.2 e.symm
      · exact (HVB.out gb e).2.1 rfl)
    have e2 := hm.at r9 (nb k9 (by omega))
    have e3 := hm.at r7 (nb k7 (by omega))
    refine ⟨by rw [cell_of_row V _ _ _ 54 (0, 0) e1]; rfl, ⟨by rw [cell_of_row V _ _ _ 68 (0, 0) e2]; rfl, by rw [cell_of_row V _ _ _ 68 (0, 0) e2]; rfl⟩, ?_, ?_, ?_, ?_, ?_, ?_⟩ <;> rw [cell_of_row V _ _ _ 40 (0, 0) e3] <;> rfl
  have s0 := KS.out w1.drew (Mv.of_below (below_drew w1) _)
  have HB7 : Hid (k6 = w.heap.size ∧ k7 = w.heap.size + 1) := ⟨hk6, hk7⟩
  clear hw1 r7 r9 rb hk9 hk7 hk6 g0 tn b1 hgb
  refine wp_region_late (J := fun i => i != 12) (S := (fun V => V.cell? ⟨gb, 0, none⟩ = some (.map (some gm)) ∧ (V.cell? ⟨k9, 0, none⟩ = some (.int .i64 x) ∧ V.cell? ⟨k9, 1, none⟩ = some (.int .i64 y)) ∧ V.cell? ⟨k7, 0, none⟩ = some (.int .i64 op) ∧ V.cell? ⟨k7, 1, none⟩ = some (.int .i64 ix) ∧ V.cell? ⟨k7, 2, none⟩ = some (.int .i64 gn) ∧ V.cell? ⟨k7, 3, none⟩ = some (.int .i64 kd) ∧ V.cell? ⟨k7, 4, none⟩ = some (.slice none 0 0) ∧ V.cell? ⟨k7, 5, none⟩ = some (.slice pa pn pc))) (by kernel_rfl) (s0) (fun hHeld => ?_)
  refine' wpAnyJ_takeW (i := 0) (oi := { dst := some 19, op := Go.Op.move (Go.Operand.tmp 0), type := 24, pos := "buffer.go:33", after := #[], guard := none }) (v := _) rfl (by kernel_rfl) (by kernel_rfl) (by kernel_rfl) (fun _ _ _ h => h) (Or.inl ⟨by rfl, ?hyj11⟩) ?rej11
  case hyj11 => (intro W hSw; (try dsimp only at hSw); go_simp; try with_reducible rfl)
  try simp only [Act.put, List.setIfInBounds_toArray, List.set_cons_zero, List.set_cons_succ]
  refine' wpAnyJ_takeW (i := 1) (oi := { dst := some 20, op := Go.Op.nilCheck (Go.Operand.tmp 19), type := 0, pos := "buffer.go:33", after := #[{ on := 0, ground := Go.Ground.data }], guard := none }) (v := _) rfl (by kernel_rfl) (by kernel_rfl) (by kernel_rfl) (fun _ _ _ h => h) (Or.inl ⟨by rfl, ?hyj12⟩) ?rej12
  case hyj12 => (intro W hSw; (try dsimp only at hSw); go_simp; try with_reducible rfl)
  try simp only [Act.put, List.setIfInBounds_toArray, List.set_cons_zero, List.set_cons_succ]
  refine' wpAnyJ_takeW (i := 2) (oi := { dst := some 21, op := Go.Op.fieldAddr 54 (Go.Operand.tmp 20) 0, type := 0, pos := "buffer.go:33", after := #[{ on := 1, ground := Go.Ground.data }], guard := none }) (v := _) rfl (by kernel_rfl) (by kernel_rfl) (by kernel_rfl) (fun _ _ _ h => h) (Or.inl ⟨by rfl, ?hyj13⟩) ?rej13
  case hyj13 => (intro W hSw; (try dsimp only at hSw); go_simp; try with_reducible rfl)
  try simp only [Act.put, List.setIfInBounds_toArray, List.set_cons_zero, List.set_cons_succ]
  refine' wpAnyJ_take (i := 3) (oi := { dst := some 22, op := Go.Op.load 52 (Go.Operand.tmp 21), type := 52, pos := "buffer.go:33", after := #[{ on := 2, ground := Go.Ground.data }], guard := none }) (v := _) rfl (by kernel_rfl) (by kernel_rfl) (by kernel_rfl) (by kernel_rfl) (fun _ _ _ h => h) (Or.inl ⟨by rfl, ?hyj14⟩) (by assumption) ?rej14
  case hyj14 => (intro W hSw; (try dsimp only at hSw); go_simp; try with_reducible rfl)
  try simp only [Act.put, List.setIfInBounds_toArray, List.set_cons_zero, List.set_cons_succ]
  refine' wpAnyJ_take (i := 4) (oi := { dst := some 23, op := Go.Op.load 68 (Go.Operand.tmp 9), type := 68, pos := "buffer.go:33", after := #[], guard := none }) (v := _) rfl (by kernel_rfl) (by kernel_rfl) (by kernel_rfl) (by kernel_rfl) (fun _ _ _ h => h) (Or.inl ⟨by rfl, ?hyj15⟩) (by assumption) ?rej15
  case hyj15 => (intro W hSw; (try dsimp only at hSw); go_simp; try with_reducible rfl)
  try simp only [Act.put, List.setIfInBounds_toArray, List.set_cons_zero, List.set_cons_succ]
  refine' wpAnyJ_take (i := 5) (oi := { dst := some 25, op := Go.Op.load 40 (Go.Operand.tmp 7), type := 40, pos := "buffer.go:33", after := #[], guard := none }) (v := _) rfl (by kernel_rfl) (by kernel_rfl) (by kernel_rfl) (by kernel_rfl) (fun _ _ _ h => h) (Or.inl ⟨by rfl, ?hyj16⟩) (by assumption) ?rej16
  case hyj16 => (intro W hSw; (try dsimp only at hSw); go_simp; try with_reducible rfl)
  try simp only [Act.put, List.setIfInBounds_toArray, List.set_cons_zero, List.set_cons_succ]
  refine wpAnyJ_ready (rs := [6]) (by kernel_rfl) (by simp) ?_
  refine AllReadyJ.cons (o := { dst := some 26, op := Go.Op.call { callee := Go.Callee.value (Go.Operand.func 17), args := #[Go.Operand.tmp 25], argTypes := #[40] }, type := 40, pos := "buffer.go:33", after := #[{ on := 5, ground := Go.Ground.data }], guard := none }) rfl (fun K hK => ?_) AllReadyJ.nil
  clear hHeld
  go_simp
  go_at_call 17
  refine (JC.out _ (below_on B1.out (below_drew w1))).mono ?_
  rintro e w2 ⟨a', n', p', rfl, hco, hcn, b2⟩
  have H2 := hide (below_on (below_drew w1) b2)
  have HCO := hide hco
  have HCN := hide hcn
  clear hco hcn b2
  refine hK.out _ _ (fun _ _ => KS.out _ (Mv.of_below H2.out _)) ?_
  clear hK K
  try simp only [Act.put, List.setIfInBounds_toArray, List.set_cons_zero, List.set_cons_succ]
  refine wpAnyJ_ready (rs := [7]) (by kernel_rfl) (by simp) ?_
  refine AllReadyJ.cons (o := { dst := some 27, op := Go.Op.buildSlice 46 1 #[(0, Go.Operand.tmp 26)], type := 46, pos := "buffer.go:33", after := #[{ on := 6, ground := Go.Ground.data }], guard := none }) rfl (fun K hK => ?_) AllReadyJ.nil
  go_simp
  refine hK.out _ _ (fun _ _ => KS.out _ ((Mv.of_below H2.out _).alloc _)) ?_
  clear hK K
  try simp only [Act.put, List.setIfInBounds_toArray, List.set_cons_zero, List.set_cons_succ]
  refine wpAnyJ_ready (rs := [8]) (by kernel_rfl) (by simp) ?_
  refine AllReadyJ.cons (o := { dst := some 28, op := Go.Op.mapEntry 52 (Go.Operand.tmp 22) (Go.Operand.tmp 23), type := 0, pos := "buffer.go:33", after := #[{ on := 3, ground := Go.Ground.data }, { on := 4, ground := Go.Ground.data }, { on := 6, ground := Go.Ground.chain }, { on := 0, ground := Go.Ground.phase }, { on := 1, ground := Go.Ground.phase }, { on := 2, ground := Go.Ground.phase }, { on := 3, ground := Go.Ground.phase }, { on := 4, ground := Go.Ground.phase }, { on := 5, ground := Go.Ground.phase }, { on := 6, ground := Go.Ground.phase }, { on := 7, ground := Go.Ground.phase }], guard := none }) rfl (fun K hK => ?_) AllReadyJ.nil
  obtain ⟨st, w3, hr3, ht3, hst⟩ := KE.out (w2.alloc (.cells #[.int .i64 op, .int .i64 ix, .int .i64 gn, .int .i64 kd, .slice none 0 0, .slice a' n' p'] 40)) (below_on (below_on B1.out H2.out) (below_alloc w2 _))
  have HT3 := hide ht3
  have HST := hide hst
  have M3 : Hid (Mv w1 w3 (fun k => k = gm ∨ (Value.slice va nl vc).ownBlock = some k)) := ((Mv.of_below H2.out _).alloc _).grown ht3.grown (fun k _ e => by cases e; exact .inl rfl)
  clear ht3 hst
  go_simp
  refine hK.out _ _ (fun _ _ => KS.out _ M3.out) ?_
  clear hK K
  try simp only [Act.put, List.setIfInBounds_toArray, List.set_cons_zero, List.set_cons_succ]
  refine' wpAnyJ_takeW (i := 9) (oi := { dst := some 24, op := Go.Op.extract (Go.Operand.tmp 28) 0, type := 46, pos := "buffer.go:33", after := #[{ on := 8, ground := Go.Ground.data }], guard := none }) (v := _) rfl (by kernel_rfl) (by kernel_rfl) (by kernel_rfl) (fun _ _ _ h => h) (Or.inl ⟨by rfl, ?hyj17⟩) ?rej17
  case hyj17 => (intro W hSw; (try dsimp only at hSw); go_simp; try with_reducible rfl)
  try simp only [Act.put, List.setIfInBounds_toArray, List.set_cons_zero, List.set_cons_succ]
  refine' wpAnyJ_takeW (i := 11) (oi := { dst := some 30, op := Go.Op.extract (Go.Operand.tmp 28) 1, type := 3, pos := "buffer.go:33", after := #[{ on := 8, ground := Go.Ground.data }], guard := none }) (v := _) rfl (by kernel_rfl) (by kernel_rfl) (by kernel_rfl) (fun _ _ _ h => h) (Or.inl ⟨by rfl, ?hyj18⟩) ?rej18
  case hyj18 => (intro W hSw; (try dsimp only at hSw); go_simp; try with_reducible rfl)
  try simp only [Act.put, List.setIfInBounds_toArray, List.set_cons_zero, List.set_cons_succ]
  refine wpAnyJ_ready (rs := [10]) (by kernel_rfl) (by simp) ?_
  refine AllReadyJ.cons (o := { dst := some 29, op := Go.Op.call { callee := Go.Callee.builtin Go.Builtin.append, args := #[Go.Operand.tmp 24, Go.Operand.tmp 27], argTypes := #[46, 46] }, type := 46, pos := "buffer.go:33", after := #[{ on := 9, ground := Go.Ground.data }, { on := 7, ground := Go.Ground.data }, { on := 8, ground := Go.Ground.chain }], guard := none }) rfl (fun K hK => ?_) AllReadyJ.nil
  refine step_append_lies _ rfl (.tmp 24) (.tmp 27) 46 rfl 0 40 ic (.agg #[.int .i64 0, .int .i64 0, .int .i64 0, .int .i64 0, .slice none 0 0, .slice none 0 0]) 6 80 Tryz.underlying46 hic hcz0 hcz1 hcz2 rfl (by decide) (.slice va nl vc) nl (czL (L (x, y))) (by simp [Act.eval]) ?own ⟨w2.heap.size, 0, none⟩ 1 1 [.int .i64 op, .int .i64 ix, .int .i64 gn, .int .i64 kd, .slice none 0 0, .slice a' n' p'] (by simp [Act.eval]) rfl ?news (by intro u hu; simp at hu; rcases hu with rfl | rfl | rfl | rfl | rfl | rfl <;> rfl) (by omega) (by have := HNB.out; have := HSZ.out; unfold maxLen; omega) (by have := HNB.out; have := HSZ.out; omega) (Nat.zero_le _) _ rfl ?_
  case own => exact own3 HT3.out (own_later HO.out (below_on (below_on B1.out H2.out) (below_alloc w2 _)))
  case news => exact news_row ((HT3.out.grown.block w2.heap.size (by simp) (fun e => by have := HGN.out.1; have := B1.out.size; have := H2.out.size; have e2 := Option.some.inj e; omega)).trans (heap_alloc_new w2 _))
  intro g9 c9 w4 ho4 hg4 ha4 hlt4
  have HW4 := hide (And.intro ho4 (And.intro hg4 (And.intro ha4 hlt4)))
  have M4 : Hid (Mv w1 w4 (fun k => k = gm ∨ (Value.slice va nl vc).ownBlock = some k)) := M3.out.grown hg4 (fun k _ e => .inr e)
  clear ho4 hg4 ha4 hlt4
  refine hK.out _ _ (fun _ _ => KS.out _ M4.out) ?_
  clear hK K
  try simp only [Act.put, List.setIfInBounds_toArray, List.set_cons_zero, List.set_cons_succ]
  refine wpAnyJ_ready (rs := [12]) (by kernel_rfl) (by simp) ?_
  refine AllReadyJ.cons (o := { dst := none, op := Go.Op.entryStore 52 (Go.Operand.tmp 22) (Go.Operand.tmp 30) (Go.Operand.tmp 29), type := 0, pos := "buffer.go:33", after := #[{ on := 3, ground := Go.Ground.data }, { on := 11, ground := Go.Ground.data }, { on := 10, ground := Go.Ground.data }, { on := 10, ground := Go.Ground.chain }, { on := 0, ground := Go.Ground.phase }, { on := 1, ground := Go.Ground.phase }, { on := 2, ground := Go.Ground.phase }, { on := 3, ground := Go.Ground.phase }, { on := 4, ground := Go.Ground.phase }, { on := 5, ground := Go.Ground.phase }, { on := 6, ground := Go.Ground.phase }, { on := 7, ground := Go.Ground.phase }, { on := 8, ground := Go.Ground.phase }, { on := 9, ground := Go.Ground.phase }, { on := 10, ground := Go.Ground.phase }, { on := 11, ground := Go.Ground.phase }], guard := none }) rfl (fun K hK => ?_) AllReadyJ.nil
  obtain ⟨w5, hr5, ht5, hM5⟩ := HST.out w4 (.slice (some ⟨g9, 0, none⟩) (nl + 1) c9) (HW4.out.2.1.block gm (by have := HT3.out.grown.size; have := HGN.out.1; have := B1.out.size; have := H2.out.size; simp at *; omega) (fun e => (HVB.out gm e.symm).2.2 rfl))
  have HT5 := hide ht5
  have HM5 := hide hM5
  clear ht5 hM5
  go_simp
  refine hK.out _ _ (fun h => absurd h (by decide)) ?_
  clear hK K
  try simp only [Act.put, List.setIfInBounds_toArray, List.set_cons_zero, List.set_cons_succ]
  refine wpAnyJ_done (by kernel_rfl) ?_ _
  have M5 : Hid (Mv w1 w5 (fun k => k = gm ∨ (Value.slice va nl vc).ownBlock = some k)) := M4.out.grown HT5.out.grown (fun k _ e => by cases e; exact .inl rfl)
  have rb5 := M5.out.at ((B1.out.block gb HGN.out.2.1).trans H.out.row) (fun e => by
    rcases e with e | e
    · exact HGN.out.2.2 e.symm
    · exact (HVB.out gb e).2.1 rfl)
  have x0 : w5.cell? ⟨gb, 1, none⟩ = some (.int .i64 z) := by rw [HZ.out, cell_of_row w5 _ _ _ 54 (0, 0) rb5]; rfl
  have xf : w5.frozen? ⟨gb, 1, none⟩ = false := frozen_of_row w5 gb 1 _ 54 rb5
  have tz : IntKind.i64.wrap (z + 1) = z + 1 := by
    have := HZ.out
    have := HSZ.out
    rw [IntKind.wrap_i64]
    omega
  obtain ⟨w6, hw6⟩ : ∃ X, X = w5.setCell ⟨gb, 1, none⟩ (.int .i64 (z + 1)) := ⟨_, rfl⟩
  have RES : Hid (∃ S' U' n' f' c', (c'.op = op ∧ c'.ix = ix ∧ c'.gn = gn ∧ c'.kd = kd ∧ (Value.slice pa pn pc = .slice none 0 0 → c' = ⟨op, ix, gn, kd, .slice none 0 0, .slice pa pn pc⟩) ∧ (c'.ps = .slice none 0 0 → Value.slice pa pn pc = .slice none 0 0)) ∧ Bg w6 S' U' gb gm n' f' (fun e => if e = (x, y) then L (x, y) ++ [c'] else L e) (sz + 1) ∧ Mv w w6 S ∧ (∀ k, S' k → S k ∨ w.heap.size ≤ k) ∧ ∀ k, U' k → U k ∨ w.heap.size ≤ k) := by
    have e := HNL.out
    subst e
    have s1 := B1.out.size
    have s2 := H2.out.size
    have hb : Below w.heap.size w (w2.alloc (.cells #[.int .i64 op, .int .i64 ix, .int .i64 gn, .int .i64 kd, .slice none 0 0, .slice a' n' p'] 40)) := below_on (below_on B1.out H2.out) (below_alloc w2 _)
    have hco : CmOk (w2.alloc (.cells #[.int .i64 op, .int .i64 ix, .int .i64 gn, .int .i64 kd, .slice none 0 0, .slice a' n' p'] 40)) (fun k => w.heap.size ≤ k ∧ k < (w2.alloc (.cells #[.int .i64 op, .int .i64 ix, .int .i64 gn, .int .i64 kd, .slice none 0 0, .slice a' n' p'] 40)).heap.size) ⟨op, ix, gn, kd, .slice none 0 0, .slice a' n' p'⟩ := (HCO.out.frame (Mv.of_below (below_alloc w2 _) (fun _ => False)) (fun _ _ e => e)).wide (fun j hj => by
      have h1 : w1.heap.size ≤ j := hj.1
      have h2 := hj.2
      simp
      omega)
    obtain ⟨k1, k2⟩ := Bg.put (w5 := w6) H.out HE.out hb hco HVV.out.symm ((Mv.refl _ (fun k => k = gm)).grown HT3.out.grown (fun k _ e => by cases e; rfl)) HW4.out.1 HW4.out.2.1 HW4.out.2.2.1 HW4.out.2.2.2 HT5.out HM5.out (by rw [hw6, HZ.out])
    have s3 := HT3.out.grown.size
    refine ⟨_, _, _, _, _, ⟨rfl, rfl, rfl, rfl, fun hn => ?_, fun hn => HCN.out.2 hn⟩, k1, k2, fun k hk => ?_, fun k hk => ?_⟩
    · rw [HCN.out.1 hn, hn]
    · rcases hk with hk | rfl
      · exact .inl hk
      · rcases HW4.out.2.2.1 with e | e
        · exact .inl (HVB.out _ e).1
        · right
          simp at s3
          omega
    · rcases hk with hk | hk
      · exact .inl hk
      · exact .inr hk.1
  clear M5 rb5
  go_wp2_with fail
  rw [← hw6]
  go_ret
  exact ⟨rfl, RES.out⟩
end
end Go.Proofs.YtiolaenkfhcajaaGreat
