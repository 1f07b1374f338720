/-
  The document's plan: New.
-/
import Derived.Test.YthgjdmomcpcolaaDg
namespace Go.Proofs.Ythgjdmomcpcolaa
open Go.RowKit
set_option maxRecDepth 100000
/-- The document's plan while it is being made. -/
def Dh (W : World) (B gp : Nat) (vr vw : Value) (rs ws : List Value) (l1 l2 : List (List Int)) : Prop :=
  W.heap[gp]? = some (.cells #[vr, vw] 58 (0, 0)) ∧ W.ownsRow B 23 1 vr rs.length rs ∧ W.ownsRow B 23 1 vw ws.length ws ∧ Ap vr vw ∧ rs.length = l1.length ∧ ws.length = l2.length ∧ (∀ j (h1 : j < rs.length) (h2 : j < l1.length), Rw W B rs[j] l1[j]) ∧ (∀ j (h1 : j < ws.length) (h2 : j < l2.length), Rw W B ws[j] l2[j]) ∧ B ≤ gp
theorem own_not58 {W : World} {B e s n gp : Nat} {v : Value} {xs : List Value} {cs : Array Value} (h : W.ownsRow B e s v n xs) (hc : W.heap[gp]? = some (.cells cs 58 (0, 0))) (he : e ≠ 58) : v.ownBlock ≠ some gp := fun x => by
  obtain ⟨cur, hcur⟩ := own_block h x
  rw [hc] at hcur
  simp only [Option.some.injEq, Obj.cells.injEq] at hcur
  exact he hcur.2.1.symm
section
variable {W W1 W' : World} {B gp : Nat} {vr vw vr' vw' r : Value} {rs ws : List Value} {l1 l2 : List (List Int)} {x : List Int}
theorem Dh.later (h : Dh W B gp vr vw rs ws l1 l2) (hb : Below W.heap.size W W') : Dh W' B gp vr vw rs ws l1 l2 := by
  obtain ⟨h1, h2, h3, h4, h5, h6, h7, h8, h9⟩ := h
  exact ⟨(hb.block gp (lt_of_block h1)).trans h1, own_later h2 hb, own_later h3 hb, h4, h5, h6, fun j a b => own_later (h7 j a b) hb, fun j a b => own_later (h8 j a b) hb, h9⟩
theorem Dh.pushR (h : Dh W B gp vr vw rs ws l1 l2) (hr : Rw W B r x) (hg : W.grownBy W1 vr.ownBlock) (ho : W1.ownsRow B 23 1 vr' (rs.length + 1) (rs ++ [r])) (hb : vr'.ownBlock = vr.ownBlock ∨ vr'.ownBlock = some W.heap.size) : Dh (W1.setCell ⟨gp, 0, none⟩ vr') B gp vr' vw (rs ++ [r]) ws (l1 ++ [x]) l2 := by
  obtain ⟨h1, h2, h3, h4, h5, h6, h7, h8, h9⟩ := h
  have hm : Mv W (W1.setCell ⟨gp, 0, none⟩ vr') (fun k => k = gp ∨ vr.ownBlock = some k) := Mv.field hg
  have hc : W1.heap[gp]? = some (.cells #[vr, vw] 58 (0, 0)) := (hg.block gp (lt_of_block h1) (fun e => own_not58 h2 h1 (by decide) e.symm)).trans h1
  have num : ∀ {v : Value} {l : List Int}, Rw W B v l → Rw (W1.setCell ⟨gp, 0, none⟩ vr') B v l := fun hv => hm.own hv (fun k e c => c.elim (fun c => own_not58 hv h1 (by decide) (by rw [e, c])) (fun c => own_apart h2 hv (by decide) k c e))
  refine ⟨heap_setCell_same W1 gp 0 _ 58 vr' hc, ?_, hm.own h3 (fun k e c => c.elim (fun c => own_not58 h3 h1 (by decide) (by rw [e, c])) (fun c => h4 k c e)), fun k e1 e2 => ?_, by simp [h5], h6, fun j a b => ?_, fun j a b => num (h8 j a b), h9⟩
  · rw [List.length_append]
    exact own_set ho (own_not58 ho hc (by decide))
  · rcases hb with c | c
    · exact h4 k (c ▸ e1) e2
    · rw [c] at e1
      cases e1
      have := (h3.lt _ e2).2
      omega
  · by_cases c : j < rs.length
    · rw [List.getElem_append_left c, List.getElem_append_left (by omega)]
      exact num (h7 j c (by omega))
    · have e : j = rs.length := by simp at a; omega
      subst e
      rw [List.getElem_append_right (Nat.le_refl _), List.getElem_append_right (by omega)]
      simp only [h5, Nat.sub_self, List.getElem_cons_zero]
      exact num hr
theorem Dh.pushW (h : Dh W B gp vr vw rs ws l1 l2) (hr : Rw W B r x) (hg : W.grownBy W1 vw.ownBlock) (ho : W1.ownsRow B 23 1 vw' (ws.length + 1) (ws ++ [r])) (hb : vw'.ownBlock = vw.ownBlock ∨ vw'.ownBlock = some W.heap.size) : Dh (W1.setCell ⟨gp, 1, none⟩ vw') B gp vr vw' rs (ws ++ [r]) l1 (l2 ++ [x]) := by
  obtain ⟨h1, h2, h3, h4, h5, h6, h7, h8, h9⟩ := h
  have hm : Mv W (W1.setCell ⟨gp, 1, none⟩ vw') (fun k => k = gp ∨ vw.ownBlock = some k) := Mv.field hg
  have hc : W1.heap[gp]? = some (.cells #[vr, vw] 58 (0, 0)) := (hg.block gp (lt_of_block h1) (fun e => own_not58 h3 h1 (by decide) e.symm)).trans h1
  have num : ∀ {v : Value} {l : List Int}, Rw W B v l → Rw (W1.setCell ⟨gp, 1, none⟩ vw') B v l := fun hv => hm.own hv (fun k e c => c.elim (fun c => own_not58 hv h1 (by decide) (by rw [e, c])) (fun c => own_apart h3 hv (by decide) k c e))
  refine ⟨heap_setCell_same W1 gp 1 _ 58 vw' hc, hm.own h2 (fun k e c => c.elim (fun c => own_not58 h2 h1 (by decide) (by rw [e, c])) (fun c => h4 k e c)), ?_, fun k e1 e2 => ?_, h5, by simp [h6], fun j a b => num (h7 j a b), fun j a b => ?_, h9⟩
  · rw [List.length_append]
    exact own_set ho (own_not58 ho hc (by decide))
  · rcases hb with c | c
    · exact h4 k e1 (c ▸ e2)
    · rw [c] at e2
      cases e2
      have := (h2.lt _ e1).2
      omega
  · by_cases c : j < ws.length
    · rw [List.getElem_append_left c, List.getElem_append_left (by omega)]
      exact num (h8 j c (by omega))
    · have e : j = ws.length := by simp at a; omega
      subst e
      rw [List.getElem_append_right (Nat.le_refl _), List.getElem_append_right (by omega)]
      simp only [h6, Nat.sub_self, List.getElem_cons_zero]
      exact num hr
end
set_option maxHeartbeats 16000000 in
theorem dnew_any {w : World} {B0 : Nat} {v : Value} {ys : List Yc} {l : List Sy} (h : Yo w B0 v ys l) (hl : l.length ≤ 1000) : Calls Try.prog 8 #[v] w fun e w' => ∃ g, e = .returned (.pointer (some ⟨g, 0, none⟩)) ∧ Dp w' w.heap.size g l ∧ Below w.heap.size w w' := by
  have HYO := hide h
  obtain ⟨av, cv, rfl⟩ := own_len h.1
  obtain ⟨hcv1, hcv2⟩ := own_cap h.1
  obtain ⟨n, hn⟩ : ∃ n, n = l.length := ⟨_, rfl⟩
  have hyl : ys.length = n := by rw [hn]; exact h.2.1
  rw [hyl] at hcv1 HYO ⊢
  have HN : Hid (n = l.length ∧ ys.length = n) := ⟨hn, hyl⟩
  have HL := hide (show n ≤ 1000 by omega)
  have hnb : (n : Int) ≤ 9223372036854775806 := by omega
  obtain ⟨gp, hgp⟩ : ∃ gp, gp = w.heap.size := ⟨_, rfl⟩
  have D0 : Hid (Dh (w.alloc (.cells #[.slice none 0 0, .slice none 0 0] 58)) w.heap.size gp (.slice none 0 0) (.slice none 0 0) [] [] ((l.take 0).map Prod.fst) ((l.take 0).map Prod.snd) ∧ Below w.heap.size w (w.alloc (.cells #[.slice none 0 0, .slice none 0 0] 58))) := by
    refine ⟨⟨by rw [hgp]; exact heap_alloc_new w _, World.ownsRow_nil _ _ _ _, World.ownsRow_nil _ _ _ _, fun k e => by simp [Value.ownBlock] at e, rfl, rfl, fun j h1 => by simp at h1, fun j h1 => by simp at h1, by omega⟩, below_alloc w _⟩
  obtain ⟨i3, hi3, hz30, hz31, hz32⟩ := info_parts info23
  clear h hl hn hyl
  go_enter Try.func8, Try.ntmps8
  go_wp2_with fail
  rw [← hgp]
  clear hgp
  go_loopw [4] (fun v4 W => ∃ i : Nat, ∃ vr vw rs ws, i ≤ n ∧ v4 = .int .i64 (i : Int) ∧ Hid (Dh W w.heap.size gp vr vw rs ws ((l.take i).map Prod.fst) ((l.take i).map Prod.snd) ∧ rs.length = i ∧ ws.length = i ∧ Below w.heap.size w W)) (fun v4 _ => n - (intOf v4).toNat)
  case atStart => exact ⟨0, _, _, [], [], Nat.zero_le _, rfl, D0.out.1, rfl, rfl, D0.out.2⟩
  case round =>
    obtain ⟨i, vr, vw, rs, ws, hi, rfl, HD⟩ := hrel
    clear D0
    obtain ⟨X0, rfl⟩ : ∃ X, X = wr := ⟨_, rfl⟩
    have hDr := HD.out.1.2.1
    have hDw := HD.out.1.2.2.1
    rw [HD.out.2.1] at hDr
    rw [HD.out.2.2.1] at hDw
    obtain ⟨ar, cr, rfl⟩ := own_len hDr
    obtain ⟨aw, cw, rfl⟩ := own_len hDw
    by_cases hlt' : i < n
    · have t1 : (i : Int) < (n : Int) := by omega
      have hlt : i < l.length := by have := HN.out; omega
      have hyi : i < ys.length := by have := HN.out; omega
      have hY := HYO.out.later HD.out.2.2.2
      obtain ⟨ga, ca, ea, -, -⟩ := own_form (show X0.ownsRow B0 56 8 (.slice av n cv) n (yc ys) by have := hY.1; rw [HN.out.2] at this; exact this) (by omega)
      simp only [Value.slice.injEq, true_and] at ea
      obtain ⟨rfl, rfl⟩ := ea
      have hAc := hY.2.2.1 i hyi hlt
      have HLI : Hid (i ≤ 1000) := by have := HL.out; unfold Hid; omega
      have hlnA : l[i].1.length ≤ 1000 ∧ l[i].2.length ≤ 1000 := ⟨hAc.2.2.2.2.1, hAc.2.2.2.2.2⟩
      have HLN := hide hlnA
      obtain ⟨x1, y1, e1⟩ := own_len hAc.1
      obtain ⟨x2, y2, e2⟩ := own_len hAc.2.1
      obtain ⟨nxA, hnA⟩ : ∃ m, m = l[i].1.length := ⟨_, rfl⟩
      obtain ⟨nxB, hnB⟩ : ∃ m, m = l[i].2.length := ⟨_, rfl⟩
      rw [← hnA] at e1
      rw [← hnB] at e2
      rw [e1, e2] at hAc
      have HCS : Hid (∀ W, Below w.heap.size w W → W.cell? ⟨ga, i * 8 + 2, none⟩ = some (.slice x1 nxA y1) ∧ W.cell? ⟨ga, i * 8 + 3, none⟩ = some (.slice x2 nxB y2)) := fun W hW => by
        have hyW := HYO.out.later hW
        have hyo : W.ownsRow B0 56 8 (.slice (some ⟨ga, 0, none⟩) ys.length cv) ys.length (yc ys) := by
          have := hyW.1
          rw [HN.out.2] at this ⊢
          exact this
        have q1 := yc_at ys i hyi 2 (by omega)
        have q2 := yc_at ys i hyi 3 (by omega)
        refine ⟨?_, ?_⟩
        · rw [hyo.cellAt (i * 8 + 2) (by omega), q1, ← e1]
          rfl
        · rw [hyo.cellAt (i * 8 + 3) (by omega), q2, ← e2]
          rfl
      have HY : Hid (∀ (a : Addr) (W : World), Below w.heap.size w W → ∀ cur, W.heap[ga]? = some (.cells cur 23 (0, 0)) → False) := fun a W hW cur hcur => by
        have hyW := HYO.out.later hW
        obtain ⟨cur2, hc2⟩ := own_block hyW.1 (g := ga) rfl
        rw [hcur] at hc2
        simp at hc2
      have cf : X0.cell? ⟨gp, 0, none⟩ = some (.slice ar i cr) := by rw [cell_of_row _ _ _ _ 58 (0, 0) HD.out.1.1]; rfl
      have cs : X0.cell? ⟨ga, i * 8 + 2, none⟩ = some (.slice x1 nxA y1) := (HCS.out X0 HD.out.2.2.2).1
      have HS0A : Hid (X0.drew.cell? ⟨gp, 0, none⟩ = some (.slice ar i cr) ∧ X0.drew.cell? ⟨ga, i * 8 + 2, none⟩ = some (.slice x1 nxA y1)) := by
        have hM := Mv.of_below (below_drew X0) (fun _ => False)
        exact ⟨hM.cell cf id, hM.cell cs id⟩
      have JCA := hide (dcopied_any (((Rl.of hAc.1).later (below_drew X0))) (by have := HLN.out; omega))
      have LCA : Hid (∀ v5 w5, Rw w5 X0.drew.heap.size v5 (l[i].1) → Below X0.drew.heap.size X0.drew w5 → (w5.cell? ⟨gp, 0, none⟩ = some (.slice ar i cr) ∧ w5.cell? ⟨ga, i * 8 + 2, none⟩ = some (.slice x1 nxA y1)) ∧ Hid ((∀ o, (w5.alloc o).cell? ⟨gp, 0, none⟩ = some (.slice ar i cr) ∧ (w5.alloc o).cell? ⟨ga, i * 8 + 2, none⟩ = some (.slice x1 nxA y1)) ∧ (w5.alloc (.cells #[v5] 23)).ownsRow w.heap.size 23 1 (.slice ar i cr) i rs ∧ w.heap.size ≤ (w5.alloc (.cells #[v5] 23)).heap.size ∧ ∀ v6 w6, w6.ownsRow w.heap.size 23 1 v6 (i + 1) (rs ++ [v5]) → (w5.alloc (.cells #[v5] 23)).grownBy w6 (Value.slice ar i cr).ownBlock → (v6.ownBlock = (Value.slice ar i cr).ownBlock ∨ v6.ownBlock = some (w5.alloc (.cells #[v5] 23)).heap.size) → (w6.cell? ⟨gp, 0, none⟩ = some (.slice ar i cr) ∧ w6.cell? ⟨ga, i * 8 + 2, none⟩ = some (.slice x1 nxA y1)) ∧ w6.frozen? ⟨gp, 0, none⟩ = false ∧ Hid (∃ vr' rs', Dh (w6.setCell ⟨gp, 0, none⟩ v6) w.heap.size gp v6 (.slice aw i cw) rs' ws ((l.take (i + 1)).map Prod.fst) ((l.take i).map Prod.snd) ∧ rs'.length = i + 1 ∧ ws.length = i ∧ Below w.heap.size w (w6.setCell ⟨gp, 0, none⟩ v6) ∧ vr' = v6))) := fun v5 w5 h5 b5 => by
        have b5' : Below X0.heap.size X0 w5 := below_on (below_drew X0) b5
        have hM := Mv.of_below b5' (fun _ => False)
        refine ⟨⟨hM.cell cf id, hM.cell cs id⟩, fun o => ?_, ?_, ?_, fun v6 w6 h6 hg6 hb6 => ?_⟩
        · have hM2 := Mv.of_below (below_on b5' (below_alloc w5 o)) (fun _ => False)
          exact ⟨hM2.cell cf id, hM2.cell cs id⟩
        · have hD5 := HD.out.1.later (below_on b5' (below_alloc w5 (.cells #[v5] 23)))
          have := hD5.2.1
          rw [HD.out.2.1] at this
          exact this
        · have := b5'.size
          have := HD.out.2.2.2.size
          rw [alloc_size]
          omega
        · have hD5 := HD.out.1.later (below_on b5' (below_alloc w5 (.cells #[v5] 23)))
          have hne : ∀ k, (Value.slice ar i cr).ownBlock = some k → k ≠ gp ∧ k ≠ ga := fun k e => ⟨fun c => own_not58 hD5.2.1 hD5.1 (by decide) (by rw [e, c]), fun c => by
            obtain ⟨cur, hcur⟩ := own_block hD5.2.1 e
            have hy := HY.out ⟨ga, i * 8 + 2, none⟩
            subst c
            exact hy _ (below_on HD.out.2.2.2 (below_on b5' (below_alloc w5 (.cells #[v5] 23)))) _ hcur⟩
          have hM6 : Mv (w5.alloc (.cells #[v5] 23)) w6 (fun k => (Value.slice ar i cr).ownBlock = some k) := (Mv.refl _ _).grown hg6 (fun _ _ e => e)
          have hM5 := Mv.of_below (below_on b5' (below_alloc w5 (.cells #[v5] 23))) (fun _ => False)
          have hc6 : w6.heap[gp]? = _ := (hg6.block gp (lt_of_block hD5.1) (fun e => (hne gp e.symm).1 rfl)).trans hD5.1
          refine ⟨⟨hM6.cell (hM5.cell cf id) (fun e => (hne _ e).1 rfl), hM6.cell (hM5.cell cs id) (fun e => (hne _ e).2 rfl)⟩, frozen_of_row w6 gp _ _ 58 hc6, ?_⟩
          have h5' : Rw (w5.alloc (.cells #[v5] 23)) w.heap.size v5 (l[i].1) := own_lower (own_later h5 (below_alloc w5 _)) (by have := HD.out.2.2.2.size; simp; omega)
          refine ⟨v6, rs ++ [v5], ?_, by rw [List.length_append, HD.out.2.1]; rfl, HD.out.2.2.1, ?_, rfl⟩
          · have := hD5.pushR h5' hg6 (by rw [HD.out.2.1]; exact h6) hb6
            rw [List.take_succ_eq_append_getElem hlt, List.map_append]
            exact this
          · have hb := below_on HD.out.2.2.2 (below_on b5' (below_alloc w5 (.cells #[v5] 23)))
            exact hb.trans (Mv.below (Mv.field hg6) hb.size (fun k e => e.elim (fun e => by rw [e]; exact hD5.2.2.2.2.2.2.2.2) (fun e => (hD5.2.1.lt k e).1)))
      have HXX : Hid (ys[i].2.2.1 = .slice x1 nxA y1 ∧ ys[i].2.2.2 = .slice x2 nxB y2) := ⟨e1, e2⟩
      have HHLT := hide hlt
      have HNX := hide (And.intro hnA hnB)
      have HBX := hide HD.out.2.2.2
      clear hDr hDw hY hAc hlnA e1 e2 HD hnA hnB
      go_wp2_with fail
      refine wp_region_noPanic ?_
      refine wp_region_late (J := fun i => i != 15) (S := fun V => V.cell? ⟨gp, 0, none⟩ = some (.slice ar i cr) ∧ V.cell? ⟨ga, i * 8 + 2, none⟩ = some (.slice x1 nxA y1)) (by kernel_rfl) HS0A.out (fun hHeld => ?_)
      refine' wpAnyJ_takeW (i := 0) (oi := { dst := some 13, op := Op.move (Operand.tmp 3), type := 27, pos := "plan.go:21", after := #[], guard := none }) (v := _) rfl (by kernel_rfl) (by kernel_rfl) (by kernel_rfl) (fun _ _ _ h => h) (Or.inl ⟨by rfl, ?hyA1⟩) ?reA1
      case hyA1 => (intro W hSw; (try dsimp only at hSw); go_simp; try with_reducible rfl)
      try simp only [Act.put, List.setIfInBounds_toArray, List.set_cons_zero, List.set_cons_succ]
      refine' wpAnyJ_takeW (i := 1) (oi := { dst := some 14, op := Op.move (Operand.tmp 3), type := 27, pos := "plan.go:21", after := #[], guard := none }) (v := _) rfl (by kernel_rfl) (by kernel_rfl) (by kernel_rfl) (fun _ _ _ h => h) (Or.inl ⟨by rfl, ?hyA2⟩) ?reA2
      case hyA2 => (intro W hSw; (try dsimp only at hSw); go_simp; try with_reducible rfl)
      try simp only [Act.put, List.setIfInBounds_toArray, List.set_cons_zero, List.set_cons_succ]
      refine' wpAnyJ_takeW (i := 2) (oi := { dst := some 15, op := Op.nilCheck (Operand.tmp 14), type := 0, pos := "plan.go:21", after := #[{ on := 1, ground := Ground.data }], guard := none }) (v := _) rfl (by kernel_rfl) (by kernel_rfl) (by kernel_rfl) (fun _ _ _ h => h) (Or.inl ⟨by rfl, ?hyA3⟩) ?reA3
      case hyA3 => (intro W hSw; (try dsimp only at hSw); go_simp; try with_reducible rfl)
      try simp only [Act.put, List.setIfInBounds_toArray, List.set_cons_zero, List.set_cons_succ]
      refine' wpAnyJ_takeW (i := 3) (oi := { dst := some 16, op := Op.fieldAddr 58 (Operand.tmp 15) 0, type := 0, pos := "plan.go:21", after := #[{ on := 2, ground := Ground.data }], guard := none }) (v := _) rfl (by kernel_rfl) (by kernel_rfl) (by kernel_rfl) (fun _ _ _ h => h) (Or.inl ⟨by rfl, ?hyA4⟩) ?reA4
      case hyA4 => (intro W hSw; (try dsimp only at hSw); go_simp; try with_reducible rfl)
      try simp only [Act.put, List.setIfInBounds_toArray, List.set_cons_zero, List.set_cons_succ]
      refine' wpAnyJ_take (i := 4) (oi := { dst := some 17, op := Op.load 32 (Operand.tmp 16), type := 32, pos := "plan.go:21", after := #[{ on := 3, ground := Ground.data }], guard := none }) (v := _) rfl (by kernel_rfl) (by kernel_rfl) (by kernel_rfl) (by kernel_rfl) (fun _ _ _ h => h) (Or.inl ⟨by rfl, ?hyA5⟩) (by assumption) ?reA5
      case hyA5 => (intro W hSw; (try dsimp only at hSw); go_simp; try with_reducible rfl)
      try simp only [Act.put, List.setIfInBounds_toArray, List.set_cons_zero, List.set_cons_succ]
      refine' wpAnyJ_takeW (i := 5) (oi := { dst := some 18, op := Op.move (Operand.tmp 0), type := 29, pos := "plan.go:21", after := #[], guard := none }) (v := _) rfl (by kernel_rfl) (by kernel_rfl) (by kernel_rfl) (fun _ _ _ h => h) (Or.inl ⟨by rfl, ?hyA6⟩) ?reA6
      case hyA6 => (intro W hSw; (try dsimp only at hSw); go_simp; try with_reducible rfl)
      try simp only [Act.put, List.setIfInBounds_toArray, List.set_cons_zero, List.set_cons_succ]
      refine' wpAnyJ_takeW (i := 6) (oi := { dst := some 19, op := Op.move (Operand.tmp 4), type := 3, pos := "plan.go:21", after := #[], guard := none }) (v := _) rfl (by kernel_rfl) (by kernel_rfl) (by kernel_rfl) (fun _ _ _ h => h) (Or.inl ⟨by rfl, ?hyA7⟩) ?reA7
      case hyA7 => (intro W hSw; (try dsimp only at hSw); go_simp; try with_reducible rfl)
      try simp only [Act.put, List.setIfInBounds_toArray, List.set_cons_zero, List.set_cons_succ]
      refine' wpAnyJ_takeW (i := 7) (oi := { dst := some 20, op := Op.indexAddr 29 (Operand.tmp 18) (Operand.tmp 19), type := 0, pos := "plan.go:21", after := #[{ on := 5, ground := Ground.data }, { on := 6, ground := Ground.data }], guard := none }) (v := _) rfl (by kernel_rfl) (by kernel_rfl) (by kernel_rfl) (fun _ _ _ h => h) (Or.inl ⟨by rfl, ?hyA8⟩) ?reA8
      case hyA8 => (intro W hSw; (try dsimp only at hSw); go_simp; try with_reducible rfl)
      try simp only [Act.put, List.setIfInBounds_toArray, List.set_cons_zero, List.set_cons_succ]
      refine' wpAnyJ_takeW (i := 8) (oi := { dst := some 21, op := Op.fieldAddr 56 (Operand.tmp 20) 2, type := 0, pos := "plan.go:21", after := #[{ on := 7, ground := Ground.data }], guard := none }) (v := _) rfl (by kernel_rfl) (by kernel_rfl) (by kernel_rfl) (fun _ _ _ h => h) (Or.inl ⟨by rfl, ?hyA9⟩) ?reA9
      case hyA9 => (intro W hSw; (try dsimp only at hSw); go_simp; try with_reducible rfl)
      try simp only [Act.put, List.setIfInBounds_toArray, List.set_cons_zero, List.set_cons_succ]
      refine' wpAnyJ_take (i := 9) (oi := { dst := some 22, op := Op.load 23 (Operand.tmp 21), type := 23, pos := "plan.go:21", after := #[{ on := 8, ground := Ground.data }], guard := none }) (v := _) rfl (by kernel_rfl) (by kernel_rfl) (by kernel_rfl) (by kernel_rfl) (fun _ _ _ h => h) (Or.inl ⟨by rfl, ?hyA10⟩) (by assumption) ?reA10
      case hyA10 => (intro W hSw; (try dsimp only at hSw); go_simp; try with_reducible rfl)
      try simp only [Act.put, List.setIfInBounds_toArray, List.set_cons_zero, List.set_cons_succ]
      refine wpAnyJ_ready (rs := [10]) (by kernel_rfl) (by simp) ?_
      refine AllReadyJ.cons (o := { dst := some 23, op := Op.call { callee := Callee.value (Operand.func 25), args := #[Operand.tmp 22], argTypes := #[23] }, type := 23, pos := "plan.go:21", after := #[{ on := 9, ground := Ground.data }], guard := none }) rfl (fun K hK => ?_) AllReadyJ.nil
      go_simp
      go_at_call 25
      refine JCA.out.mono ?_
      rintro e w5 ⟨v5, rfl, h5, b5⟩
      obtain ⟨Sf5, HW5A⟩ := LCA.out v5 w5 h5 b5
      obtain ⟨a5A, c5A, rfl⟩ := own_len h5
      clear h5 b5
      go_simp
      refine hK.out _ _ (fun _ _ => Sf5) ?_
      clear hK K
      try simp only [Act.put, List.setIfInBounds_toArray, List.set_cons_zero, List.set_cons_succ]
      refine wpAnyJ_ready (rs := [11]) (by kernel_rfl) (by simp) ?_
      refine AllReadyJ.cons (o := { dst := some 24, op := Op.buildSlice 32 1 #[(0, Operand.tmp 23)], type := 32, pos := "plan.go:21", after := #[{ on := 10, ground := Ground.data }], guard := none }) rfl (fun K hK => ?_) AllReadyJ.nil
      go_simp
      refine hK.out _ _ (fun _ _ => HW5A.out.1 _) ?_
      clear hK K
      try simp only [Act.put, List.setIfInBounds_toArray, List.set_cons_zero, List.set_cons_succ]
      refine wpAnyJ_ready (rs := [12]) (by kernel_rfl) (by simp) ?_
      refine AllReadyJ.cons (o := { dst := some 25, op := Op.call { callee := Callee.builtin Builtin.append, args := #[Operand.tmp 17, Operand.tmp 24], argTypes := #[32, 32] }, type := 32, pos := "plan.go:21", after := #[{ on := 4, ground := Ground.data }, { on := 11, ground := Ground.data }, { on := 10, ground := Ground.chain }], guard := none }) rfl (fun K hK => ?_) AllReadyJ.nil
      refine step_append_kept rfl (.tmp 17) (.tmp 24) 32 rfl w.heap.size 23 i3 (.slice none 0 0) 1 24 Try.underlying32 hi3 hz30 hz31 hz32 rfl (by decide) (.slice ar i cr) i rs (by simp [Act.eval]) (HW5A.out.2.1) ⟨w5.heap.size, 0, none⟩ 1 1 [.slice a5A l[i].1.length c5A] (by simp [Act.eval]) rfl (lit_cells w5 _ 23) (fun u hu => by rw [List.mem_singleton.1 hu]; rfl) (by have := HLI.out; unfold maxLen; omega) (by have := HLI.out; omega) (HW5A.out.2.2.1) ?_
      intro v6 w6 h6 hg6 hb6 hk6
      obtain ⟨Sf6, fz6, HEA⟩ := HW5A.out.2.2.2 v6 w6 h6 hg6 hb6
      obtain ⟨a6A, c6A, rfl⟩ := own_len h6
      clear h6 hg6 hb6 hk6
      refine hK.out _ _ (fun _ _ => Sf6) ?_
      clear hK K
      try simp only [Act.put, List.setIfInBounds_toArray, List.set_cons_zero, List.set_cons_succ]
      refine' wpAnyJ_takeW (i := 13) (oi := { dst := some 26, op := Op.nilCheck (Operand.tmp 13), type := 0, pos := "plan.go:21", after := #[{ on := 0, ground := Ground.data }, { on := 0, ground := Ground.phase }, { on := 1, ground := Ground.phase }, { on := 2, ground := Ground.phase }, { on := 3, ground := Ground.phase }, { on := 4, ground := Ground.phase }, { on := 5, ground := Ground.phase }, { on := 6, ground := Ground.phase }, { on := 7, ground := Ground.phase }, { on := 8, ground := Ground.phase }, { on := 9, ground := Ground.phase }, { on := 10, ground := Ground.phase }, { on := 11, ground := Ground.phase }, { on := 12, ground := Ground.phase }], guard := none }) (v := _) rfl (by kernel_rfl) (by kernel_rfl) (by kernel_rfl) (fun _ _ _ h => h) (Or.inl ⟨by rfl, ?hyA11⟩) ?reA11
      case hyA11 => (intro W hSw; (try dsimp only at hSw); go_simp; try with_reducible rfl)
      try simp only [Act.put, List.setIfInBounds_toArray, List.set_cons_zero, List.set_cons_succ]
      refine' wpAnyJ_takeW (i := 14) (oi := { dst := some 27, op := Op.fieldAddr 58 (Operand.tmp 26) 0, type := 0, pos := "plan.go:21", after := #[{ on := 13, ground := Ground.data }, { on := 0, ground := Ground.phase }, { on := 1, ground := Ground.phase }, { on := 2, ground := Ground.phase }, { on := 3, ground := Ground.phase }, { on := 4, ground := Ground.phase }, { on := 5, ground := Ground.phase }, { on := 6, ground := Ground.phase }, { on := 7, ground := Ground.phase }, { on := 8, ground := Ground.phase }, { on := 9, ground := Ground.phase }, { on := 10, ground := Ground.phase }, { on := 11, ground := Ground.phase }, { on := 12, ground := Ground.phase }], guard := none }) (v := _) rfl (by kernel_rfl) (by kernel_rfl) (by kernel_rfl) (fun _ _ _ h => h) (Or.inl ⟨by rfl, ?hyA12⟩) ?reA12
      case hyA12 => (intro W hSw; (try dsimp only at hSw); go_simp; try with_reducible rfl)
      try simp only [Act.put, List.setIfInBounds_toArray, List.set_cons_zero, List.set_cons_succ]
      refine wpAnyJ_ready (rs := [15]) (by kernel_rfl) (by simp) ?_
      refine AllReadyJ.cons (o := { dst := none, op := Op.store 32 (Operand.tmp 27) (Operand.tmp 25), type := 0, pos := "plan.go:21", after := #[{ on := 14, ground := Ground.data }, { on := 12, ground := Ground.data }, { on := 12, ground := Ground.chain }, { on := 0, ground := Ground.phase }, { on := 1, ground := Ground.phase }, { on := 2, ground := Ground.phase }, { on := 3, ground := Ground.phase }, { on := 4, ground := Ground.phase }, { on := 5, ground := Ground.phase }, { on := 6, ground := Ground.phase }, { on := 7, ground := Ground.phase }, { on := 8, ground := Ground.phase }, { on := 9, ground := Ground.phase }, { on := 10, ground := Ground.phase }, { on := 11, ground := Ground.phase }, { on := 12, ground := Ground.phase }], guard := none }) rfl (fun K hK => ?_) AllReadyJ.nil
      go_simp
      refine hK.out _ _ (fun h => absurd h (by decide)) ?_
      clear hK K
      try simp only [Act.put, List.setIfInBounds_toArray, List.set_cons_zero, List.set_cons_succ]
      refine wpAnyJ_done (by kernel_rfl) ?_ _
      refine NoPanic.normal ?_
      go_upto_region 6 with fail
      obtain ⟨X1, hX1⟩ : ∃ X, X = w6.setCell ⟨gp, 0, none⟩ (.slice a6A (i + 1) c6A) := ⟨_, rfl⟩
      rw [← hX1] at HEA ⊢
      clear hX1 cf cs
      obtain ⟨vrB, rsB, g1, g2, g3, g4, -⟩ := HEA.out
      obtain ⟨arB, har⟩ : ∃ a, a = a6A := ⟨_, rfl⟩
      obtain ⟨crB, hcr⟩ : ∃ c, c = c6A := ⟨_, rfl⟩
      rw [← har, ← hcr] at g1 ⊢
      clear har hcr HEA
      have HD : Hid (Dh X1 w.heap.size gp (.slice arB (i + 1) crB) (.slice aw i cw) rsB ws ((l.take (i + 1)).map Prod.fst) ((l.take i).map Prod.snd) ∧ rsB.length = i + 1 ∧ ws.length = i ∧ Below w.heap.size w X1) := ⟨g1, g2, g3, g4⟩
      have hY := HYO.out.later g4
      have hAc := hY.2.2.1 i hyi hlt
      have hxx : ys[i].2.2.1 = .slice x1 nxA y1 ∧ ys[i].2.2.2 = .slice x2 nxB y2 := HXX.out
      rw [hxx.1, hxx.2] at hAc
      have cf : X1.cell? ⟨gp, 1, none⟩ = some (.slice aw i cw) := by rw [cell_of_row _ _ _ _ 58 (0, 0) g1.1]; rfl
      have cs : X1.cell? ⟨ga, i * 8 + 3, none⟩ = some (.slice x2 nxB y2) := (HCS.out X1 g4).2
      have HS0B : Hid (X1.drew.cell? ⟨gp, 1, none⟩ = some (.slice aw i cw) ∧ X1.drew.cell? ⟨ga, i * 8 + 3, none⟩ = some (.slice x2 nxB y2)) := by
        have hM := Mv.of_below (below_drew X1) (fun _ => False)
        exact ⟨hM.cell cf id, hM.cell cs id⟩
      have JCB := hide (dcopied_any (((Rl.of hAc.2.1).later (below_drew X1))) (by have := HLN.out; omega))
      have LCB : Hid (∀ v5 w5, Rw w5 X1.drew.heap.size v5 (l[i].2) → Below X1.drew.heap.size X1.drew w5 → (w5.cell? ⟨gp, 1, none⟩ = some (.slice aw i cw) ∧ w5.cell? ⟨ga, i * 8 + 3, none⟩ = some (.slice x2 nxB y2)) ∧ Hid ((∀ o, (w5.alloc o).cell? ⟨gp, 1, none⟩ = some (.slice aw i cw) ∧ (w5.alloc o).cell? ⟨ga, i * 8 + 3, none⟩ = some (.slice x2 nxB y2)) ∧ (w5.alloc (.cells #[v5] 23)).ownsRow w.heap.size 23 1 (.slice aw i cw) i ws ∧ w.heap.size ≤ (w5.alloc (.cells #[v5] 23)).heap.size ∧ ∀ v6 w6, w6.ownsRow w.heap.size 23 1 v6 (i + 1) (ws ++ [v5]) → (w5.alloc (.cells #[v5] 23)).grownBy w6 (Value.slice aw i cw).ownBlock → (v6.ownBlock = (Value.slice aw i cw).ownBlock ∨ v6.ownBlock = some (w5.alloc (.cells #[v5] 23)).heap.size) → (w6.cell? ⟨gp, 1, none⟩ = some (.slice aw i cw) ∧ w6.cell? ⟨ga, i * 8 + 3, none⟩ = some (.slice x2 nxB y2)) ∧ w6.frozen? ⟨gp, 1, none⟩ = false ∧ Hid (∃ vw' ws', Dh (w6.setCell ⟨gp, 1, none⟩ v6) w.heap.size gp (.slice arB (i + 1) crB) v6 rsB ws' ((l.take (i + 1)).map Prod.fst) ((l.take (i + 1)).map Prod.snd) ∧ rsB.length = i + 1 ∧ ws'.length = i + 1 ∧ Below w.heap.size w (w6.setCell ⟨gp, 1, none⟩ v6) ∧ vw' = v6))) := fun v5 w5 h5 b5 => by
        have b5' : Below X1.heap.size X1 w5 := below_on (below_drew X1) b5
        have hM := Mv.of_below b5' (fun _ => False)
        refine ⟨⟨hM.cell cf id, hM.cell cs id⟩, fun o => ?_, ?_, ?_, fun v6 w6 h6 hg6 hb6 => ?_⟩
        · have hM2 := Mv.of_below (below_on b5' (below_alloc w5 o)) (fun _ => False)
          exact ⟨hM2.cell cf id, hM2.cell cs id⟩
        · have hD5 := HD.out.1.later (below_on b5' (below_alloc w5 (.cells #[v5] 23)))
          have := hD5.2.2.1
          rw [HD.out.2.2.1] at this
          exact this
        · have := b5'.size
          have := HD.out.2.2.2.size
          rw [alloc_size]
          omega
        · have hD5 := HD.out.1.later (below_on b5' (below_alloc w5 (.cells #[v5] 23)))
          have hne : ∀ k, (Value.slice aw i cw).ownBlock = some k → k ≠ gp ∧ k ≠ ga := fun k e => ⟨fun c => own_not58 hD5.2.2.1 hD5.1 (by decide) (by rw [e, c]), fun c => by
            obtain ⟨cur, hcur⟩ := own_block hD5.2.2.1 e
            have hy := HY.out ⟨ga, i * 8 + 3, none⟩
            subst c
            exact hy _ (below_on HD.out.2.2.2 (below_on b5' (below_alloc w5 (.cells #[v5] 23)))) _ hcur⟩
          have hM6 : Mv (w5.alloc (.cells #[v5] 23)) w6 (fun k => (Value.slice aw i cw).ownBlock = some k) := (Mv.refl _ _).grown hg6 (fun _ _ e => e)
          have hM5 := Mv.of_below (below_on b5' (below_alloc w5 (.cells #[v5] 23))) (fun _ => False)
          have hc6 : w6.heap[gp]? = _ := (hg6.block gp (lt_of_block hD5.1) (fun e => (hne gp e.symm).1 rfl)).trans hD5.1
          refine ⟨⟨hM6.cell (hM5.cell cf id) (fun e => (hne _ e).1 rfl), hM6.cell (hM5.cell cs id) (fun e => (hne _ e).2 rfl)⟩, frozen_of_row w6 gp _ _ 58 hc6, ?_⟩
          have h5' : Rw (w5.alloc (.cells #[v5] 23)) w.heap.size v5 (l[i].2) := own_lower (own_later h5 (below_alloc w5 _)) (by have := HD.out.2.2.2.size; simp; omega)
          refine ⟨v6, ws ++ [v5], ?_, HD.out.2.1, by rw [List.length_append, HD.out.2.2.1]; rfl, ?_, rfl⟩
          · have := hD5.pushW h5' hg6 (by rw [HD.out.2.2.1]; exact h6) hb6
            rw [List.take_succ_eq_append_getElem hlt, List.map_append (f := Prod.snd)]
            rw [List.take_succ_eq_append_getElem hlt] at this
            exact this
          · have hb := below_on HD.out.2.2.2 (below_on b5' (below_alloc w5 (.cells #[v5] 23)))
            exact hb.trans (Mv.below (Mv.field hg6) hb.size (fun k e => e.elim (fun e => by rw [e]; exact hD5.2.2.2.2.2.2.2.2) (fun e => (hD5.2.2.1.lt k e).1)))
      clear g1 g2 g3 g4 hY hAc hxx HD
      go_wp2_with fail
      refine wp_region_noPanic ?_
      refine wp_region_late (J := fun i => i != 15) (S := fun V => V.cell? ⟨gp, 1, none⟩ = some (.slice aw i cw) ∧ V.cell? ⟨ga, i * 8 + 3, none⟩ = some (.slice x2 nxB y2)) (by kernel_rfl) HS0B.out (fun hHeld => ?_)
      refine' wpAnyJ_takeW (i := 0) (oi := { dst := some 28, op := Op.move (Operand.tmp 3), type := 27, pos := "plan.go:22", after := #[], guard := none }) (v := _) rfl (by kernel_rfl) (by kernel_rfl) (by kernel_rfl) (fun _ _ _ h => h) (Or.inl ⟨by rfl, ?hyB1⟩) ?reB1
      case hyB1 => (intro W hSw; (try dsimp only at hSw); go_simp; try with_reducible rfl)
      try simp only [Act.put, List.setIfInBounds_toArray, List.set_cons_zero, List.set_cons_succ]
      refine' wpAnyJ_takeW (i := 1) (oi := { dst := some 29, op := Op.move (Operand.tmp 3), type := 27, pos := "plan.go:22", after := #[], guard := none }) (v := _) rfl (by kernel_rfl) (by kernel_rfl) (by kernel_rfl) (fun _ _ _ h => h) (Or.inl ⟨by rfl, ?hyB2⟩) ?reB2
      case hyB2 => (intro W hSw; (try dsimp only at hSw); go_simp; try with_reducible rfl)
      try simp only [Act.put, List.setIfInBounds_toArray, List.set_cons_zero, List.set_cons_succ]
      refine' wpAnyJ_takeW (i := 2) (oi := { dst := some 30, op := Op.nilCheck (Operand.tmp 29), type := 0, pos := "plan.go:22", after := #[{ on := 1, ground := Ground.data }], guard := none }) (v := _) rfl (by kernel_rfl) (by kernel_rfl) (by kernel_rfl) (fun _ _ _ h => h) (Or.inl ⟨by rfl, ?hyB3⟩) ?reB3
      case hyB3 => (intro W hSw; (try dsimp only at hSw); go_simp; try with_reducible rfl)
      try simp only [Act.put, List.setIfInBounds_toArray, List.set_cons_zero, List.set_cons_succ]
      refine' wpAnyJ_takeW (i := 3) (oi := { dst := some 31, op := Op.fieldAddr 58 (Operand.tmp 30) 1, type := 0, pos := "plan.go:22", after := #[{ on := 2, ground := Ground.data }], guard := none }) (v := _) rfl (by kernel_rfl) (by kernel_rfl) (by kernel_rfl) (fun _ _ _ h => h) (Or.inl ⟨by rfl, ?hyB4⟩) ?reB4
      case hyB4 => (intro W hSw; (try dsimp only at hSw); go_simp; try with_reducible rfl)
      try simp only [Act.put, List.setIfInBounds_toArray, List.set_cons_zero, List.set_cons_succ]
      refine' wpAnyJ_take (i := 4) (oi := { dst := some 32, op := Op.load 32 (Operand.tmp 31), type := 32, pos := "plan.go:22", after := #[{ on := 3, ground := Ground.data }], guard := none }) (v := _) rfl (by kernel_rfl) (by kernel_rfl) (by kernel_rfl) (by kernel_rfl) (fun _ _ _ h => h) (Or.inl ⟨by rfl, ?hyB5⟩) (by assumption) ?reB5
      case hyB5 => (intro W hSw; (try dsimp only at hSw); go_simp; try with_reducible rfl)
      try simp only [Act.put, List.setIfInBounds_toArray, List.set_cons_zero, List.set_cons_succ]
      refine' wpAnyJ_takeW (i := 5) (oi := { dst := some 33, op := Op.move (Operand.tmp 0), type := 29, pos := "plan.go:22", after := #[], guard := none }) (v := _) rfl (by kernel_rfl) (by kernel_rfl) (by kernel_rfl) (fun _ _ _ h => h) (Or.inl ⟨by rfl, ?hyB6⟩) ?reB6
      case hyB6 => (intro W hSw; (try dsimp only at hSw); go_simp; try with_reducible rfl)
      try simp only [Act.put, List.setIfInBounds_toArray, List.set_cons_zero, List.set_cons_succ]
      refine' wpAnyJ_takeW (i := 6) (oi := { dst := some 34, op := Op.move (Operand.tmp 4), type := 3, pos := "plan.go:22", after := #[], guard := none }) (v := _) rfl (by kernel_rfl) (by kernel_rfl) (by kernel_rfl) (fun _ _ _ h => h) (Or.inl ⟨by rfl, ?hyB7⟩) ?reB7
      case hyB7 => (intro W hSw; (try dsimp only at hSw); go_simp; try with_reducible rfl)
      try simp only [Act.put, List.setIfInBounds_toArray, List.set_cons_zero, List.set_cons_succ]
      refine' wpAnyJ_takeW (i := 7) (oi := { dst := some 35, op := Op.indexAddr 29 (Operand.tmp 33) (Operand.tmp 34), type := 0, pos := "plan.go:22", after := #[{ on := 5, ground := Ground.data }, { on := 6, ground := Ground.data }], guard := none }) (v := _) rfl (by kernel_rfl) (by kernel_rfl) (by kernel_rfl) (fun _ _ _ h => h) (Or.inl ⟨by rfl, ?hyB8⟩) ?reB8
      case hyB8 => (intro W hSw; (try dsimp only at hSw); go_simp; try with_reducible rfl)
      try simp only [Act.put, List.setIfInBounds_toArray, List.set_cons_zero, List.set_cons_succ]
      refine' wpAnyJ_takeW (i := 8) (oi := { dst := some 36, op := Op.fieldAddr 56 (Operand.tmp 35) 3, type := 0, pos := "plan.go:22", after := #[{ on := 7, ground := Ground.data }], guard := none }) (v := _) rfl (by kernel_rfl) (by kernel_rfl) (by kernel_rfl) (fun _ _ _ h => h) (Or.inl ⟨by rfl, ?hyB9⟩) ?reB9
      case hyB9 => (intro W hSw; (try dsimp only at hSw); go_simp; try with_reducible rfl)
      try simp only [Act.put, List.setIfInBounds_toArray, List.set_cons_zero, List.set_cons_succ]
      refine' wpAnyJ_take (i := 9) (oi := { dst := some 37, op := Op.load 23 (Operand.tmp 36), type := 23, pos := "plan.go:22", after := #[{ on := 8, ground := Ground.data }], guard := none }) (v := _) rfl (by kernel_rfl) (by kernel_rfl) (by kernel_rfl) (by kernel_rfl) (fun _ _ _ h => h) (Or.inl ⟨by rfl, ?hyB10⟩) (by assumption) ?reB10
      case hyB10 => (intro W hSw; (try dsimp only at hSw); go_simp; try with_reducible rfl)
      try simp only [Act.put, List.setIfInBounds_toArray, List.set_cons_zero, List.set_cons_succ]
      refine wpAnyJ_ready (rs := [10]) (by kernel_rfl) (by simp) ?_
      refine AllReadyJ.cons (o := { dst := some 38, op := Op.call { callee := Callee.value (Operand.func 25), args := #[Operand.tmp 37], argTypes := #[23] }, type := 23, pos := "plan.go:22", after := #[{ on := 9, ground := Ground.data }], guard := none }) rfl (fun K hK => ?_) AllReadyJ.nil
      go_simp
      go_at_call 25
      refine JCB.out.mono ?_
      rintro e w5 ⟨v5, rfl, h5, b5⟩
      obtain ⟨Sf5, HW5B⟩ := LCB.out v5 w5 h5 b5
      obtain ⟨a5B, c5B, rfl⟩ := own_len h5
      clear h5 b5
      go_simp
      refine hK.out _ _ (fun _ _ => Sf5) ?_
      clear hK K
      try simp only [Act.put, List.setIfInBounds_toArray, List.set_cons_zero, List.set_cons_succ]
      refine wpAnyJ_ready (rs := [11]) (by kernel_rfl) (by simp) ?_
      refine AllReadyJ.cons (o := { dst := some 39, op := Op.buildSlice 32 1 #[(0, Operand.tmp 38)], type := 32, pos := "plan.go:22", after := #[{ on := 10, ground := Ground.data }], guard := none }) rfl (fun K hK => ?_) AllReadyJ.nil
      go_simp
      refine hK.out _ _ (fun _ _ => HW5B.out.1 _) ?_
      clear hK K
      try simp only [Act.put, List.setIfInBounds_toArray, List.set_cons_zero, List.set_cons_succ]
      refine wpAnyJ_ready (rs := [12]) (by kernel_rfl) (by simp) ?_
      refine AllReadyJ.cons (o := { dst := some 40, op := Op.call { callee := Callee.builtin Builtin.append, args := #[Operand.tmp 32, Operand.tmp 39], argTypes := #[32, 32] }, type := 32, pos := "plan.go:22", after := #[{ on := 4, ground := Ground.data }, { on := 11, ground := Ground.data }, { on := 10, ground := Ground.chain }], guard := none }) rfl (fun K hK => ?_) AllReadyJ.nil
      refine step_append_kept rfl (.tmp 32) (.tmp 39) 32 rfl w.heap.size 23 i3 (.slice none 0 0) 1 24 Try.underlying32 hi3 hz30 hz31 hz32 rfl (by decide) (.slice aw i cw) i ws (by simp [Act.eval]) (HW5B.out.2.1) ⟨w5.heap.size, 0, none⟩ 1 1 [.slice a5B l[i].2.length c5B] (by simp [Act.eval]) rfl (lit_cells w5 _ 23) (fun u hu => by rw [List.mem_singleton.1 hu]; rfl) (by have := HLI.out; unfold maxLen; omega) (by have := HLI.out; omega) (HW5B.out.2.2.1) ?_
      intro v6 w6 h6 hg6 hb6 hk6
      obtain ⟨Sf6, fz6, HEB⟩ := HW5B.out.2.2.2 v6 w6 h6 hg6 hb6
      obtain ⟨a6B, c6B, rfl⟩ := own_len h6
      clear h6 hg6 hb6 hk6
      refine hK.out _ _ (fun _ _ => Sf6) ?_
      clear hK K
      try simp only [Act.put, List.setIfInBounds_toArray, List.set_cons_zero, List.set_cons_succ]
      refine' wpAnyJ_takeW (i := 13) (oi := { dst := some 41, op := Op.nilCheck (Operand.tmp 28), type := 0, pos := "plan.go:22", after := #[{ on := 0, ground := Ground.data }, { on := 0, ground := Ground.phase }, { on := 1, ground := Ground.phase }, { on := 2, ground := Ground.phase }, { on := 3, ground := Ground.phase }, { on := 4, ground := Ground.phase }, { on := 5, ground := Ground.phase }, { on := 6, ground := Ground.phase }, { on := 7, ground := Ground.phase }, { on := 8, ground := Ground.phase }, { on := 9, ground := Ground.phase }, { on := 10, ground := Ground.phase }, { on := 11, ground := Ground.phase }, { on := 12, ground := Ground.phase }], guard := none }) (v := _) rfl (by kernel_rfl) (by kernel_rfl) (by kernel_rfl) (fun _ _ _ h => h) (Or.inl ⟨by rfl, ?hyB11⟩) ?reB11
      case hyB11 => (intro W hSw; (try dsimp only at hSw); go_simp; try with_reducible rfl)
      try simp only [Act.put, List.setIfInBounds_toArray, List.set_cons_zero, List.set_cons_succ]
      refine' wpAnyJ_takeW (i := 14) (oi := { dst := some 42, op := Op.fieldAddr 58 (Operand.tmp 41) 1, type := 0, pos := "plan.go:22", after := #[{ on := 13, ground := Ground.data }, { on := 0, ground := Ground.phase }, { on := 1, ground := Ground.phase }, { on := 2, ground := Ground.phase }, { on := 3, ground := Ground.phase }, { on := 4, ground := Ground.phase }, { on := 5, ground := Ground.phase }, { on := 6, ground := Ground.phase }, { on := 7, ground := Ground.phase }, { on := 8, ground := Ground.phase }, { on := 9, ground := Ground.phase }, { on := 10, ground := Ground.phase }, { on := 11, ground := Ground.phase }, { on := 12, ground := Ground.phase }], guard := none }) (v := _) rfl (by kernel_rfl) (by kernel_rfl) (by kernel_rfl) (fun _ _ _ h => h) (Or.inl ⟨by rfl, ?hyB12⟩) ?reB12
      case hyB12 => (intro W hSw; (try dsimp only at hSw); go_simp; try with_reducible rfl)
      try simp only [Act.put, List.setIfInBounds_toArray, List.set_cons_zero, List.set_cons_succ]
      refine wpAnyJ_ready (rs := [15]) (by kernel_rfl) (by simp) ?_
      refine AllReadyJ.cons (o := { dst := none, op := Op.store 32 (Operand.tmp 42) (Operand.tmp 40), type := 0, pos := "plan.go:22", after := #[{ on := 14, ground := Ground.data }, { on := 12, ground := Ground.data }, { on := 12, ground := Ground.chain }, { on := 0, ground := Ground.phase }, { on := 1, ground := Ground.phase }, { on := 2, ground := Ground.phase }, { on := 3, ground := Ground.phase }, { on := 4, ground := Ground.phase }, { on := 5, ground := Ground.phase }, { on := 6, ground := Ground.phase }, { on := 7, ground := Ground.phase }, { on := 8, ground := Ground.phase }, { on := 9, ground := Ground.phase }, { on := 10, ground := Ground.phase }, { on := 11, ground := Ground.phase }, { on := 12, ground := Ground.phase }], guard := none }) rfl (fun K hK => ?_) AllReadyJ.nil
      go_simp
      refine hK.out _ _ (fun h => absurd h (by decide)) ?_
      clear hK K
      try simp only [Act.put, List.setIfInBounds_toArray, List.set_cons_zero, List.set_cons_succ]
      refine wpAnyJ_done (by kernel_rfl) ?_ _
      refine NoPanic.normal ?_
      go_wp2_with fail
      go_roundw
      case rel =>
        obtain ⟨vw', ws', q1, q2, q3, q4, -⟩ := HEB.out
        exact ⟨i + 1, _, _, _, _, by omega, rfl, q1, q2, q3, q4⟩
      case measure => simp only [intOf]; omega
    · have t1 : ¬ (i : Int) < (n : Int) := by omega
      obtain rfl : i = n := by omega
      have HE : Hid (Dp X0 w.heap.size gp l ∧ Below w.heap.size w X0) := by
        obtain ⟨⟨h1, h2, h3, h4, h5, h6, h7, h8, h9⟩, q1, q2, q3⟩ := HD.out
        have hnn := HN.out.1
        rw [List.take_of_length_le (by omega)] at h5 h6 h7 h8
        rw [List.length_map] at h5 h6
        refine ⟨⟨_, _, rs, ws, h1, h2, h3, h5, h6, fun j a b c => ⟨?_, ?_⟩, by have := HL.out; omega, h9⟩, q3⟩
        · have := h7 j a (by simpa using c)
          rw [List.getElem_map] at this
          exact this
        · have := h8 j b (by simpa using c)
          rw [List.getElem_map] at this
          exact this
      clear hDr hDw HD
      go_wp2_with fail
      go_ret
      exact ⟨gp, rfl, HE.out⟩
end Go.Proofs.Ythgjdmomcpcolaa
