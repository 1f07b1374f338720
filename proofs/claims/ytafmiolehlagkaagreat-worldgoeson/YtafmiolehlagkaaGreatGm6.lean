import Derived.Test.YtafmiolehlagkaaGreatGm5
import Derived.Test.YtafmiolehlagkaaGreatGm4
import Derived.Deep.RegionHeld3
/-
  World: Set's walk.
-/
namespace Go.Proofs.YtafmiolehlagkaaGreat
open Go.RowKit
set_option maxRecDepth 100000
section
variable {w w' : World} {own : Nat → Nat} {gw gp gm gt M M' N : Nat} {vk : Value} {ks : List Kind} {gs fr gs' fr' : List Nat} {f f' : Int × Int → Option Nat} {q q' : Nat → Option Nat} {T T' : Nat → Ts} {C : Co}
def setT (T : Nat → Ts) (s col i : Nat) (vals : List Int) (j : Nat) : Nat → Ts := fun x => if x = s then ((T s).1, setC (T s).2 col i vals j) else T x
/-- One number more is set. -/
theorem set_one {W : World} {s g col i j : Nat} {vals : List Int} (h : Wx 0 W own gw vk gp gm gt M ks gs fr f q (setT T s col i vals j)) (hq : q s = some g) (hi : i < (T s).1.length) (hj : col + j < (T s).2.length) :
    Calls Tryz.prog 91 #[.pointer (some ⟨g, 0, none⟩), .int .i64 (i : Int), .int .i64 ((col + j : Nat) : Int), .int .i64 (vals.getD j 0)] W fun e w' => e = .returned (.int .i64 0) ∧ ∃ own', Wx 0 w' own' gw vk gp gm gt M ks gs fr f q (setT T s col i vals (j + 1)) ∧ Wk own own' W w' := by
  obtain ⟨n, hn, ht⟩ := h.tb hq
  have e1 : setT T s col i vals j s = ((T s).1, setC (T s).2 col i vals j) := if_pos rfl
  rw [e1] at ht
  have hl : col + j < (setC (T s).2 col i vals j).length := by rw [setC_len]; exact hj
  refine (set_any ht i (col + j) (vals.getD j 0) hi hl).mono ?_
  rintro e w' ⟨rfl, t1, t2⟩
  have hT : (setC (T s).2 col i vals j).set (col + j) ((setC (T s).2 col i vals j)[col + j].set i (vals.getD j 0)) = setC (T s).2 col i vals (j + 1) := by
    rw [setC, getD_getElem _ _ _ hl]
  rw [hT] at t1
  have hx := h.table t2 hq (t := ((T s).1, setC (T s).2 col i vals (j + 1))) (M' := M) ⟨n, hn, t1.mono (fun k e => .inl e)⟩ (Nat.le_refl _)
  have hTT : (fun x => if x = s then ((T s).1, setC (T s).2 col i vals (j + 1)) else setT T s col i vals j x) = setT T s col i vals (j + 1) := by
    funext x
    unfold setT
    by_cases c : x = s
    · rw [if_pos c, if_pos c]
    · rw [if_neg c, if_neg c, if_neg c]
  rw [hTT] at hx
  exact ⟨rfl, _, hx, Wk.of t2 (fun k _ e => by have := e.2; omega)⟩
theorem setT_zero (T : Nat → Ts) (s col i : Nat) (vals : List Int) : setT T s col i vals 0 = T := by
  funext x
  unfold setT
  by_cases c : x = s
  · rw [if_pos c, c]
    rfl
  · rw [if_neg c]
set_option maxHeartbeats 8000000 in
theorem wset_any (h : Wx 0 w own gw vk gp gm gt M ks gs fr f q T) (hw : Wi ks f q T) (a b : Int) (hib : InB (a, b)) (hks : ks.length ≤ 12) (hk4 : ∀ x ∈ ks, x.2.length ≤ 4) (s g i : Nat) (hf : f (a, b) = some s) (hq : q s = some g) (hi : i < (T s).1.length) (hx : (T s).1[i] = (a, b)) (k : Nat) (hk1 : 1 ≤ k) (hk2 : k ≤ ks.length) (hbit : s.testBit k = true)
    (av : Option Addr) (nv cv : Nat) (vals : List Int) (hvs : Iz w (.slice av nv cv) vals) (hv0 : ∀ k, (Value.slice av nv cv).ownBlock = some k → own k = 0 ∧ k < w.heap.size) (hl : livesOf gs fr a b = true) (hnv : nv = (ks.getD (k - 1) (ByteArray.empty, [])).2.length) :
    Calls Tryz.prog 35 #[.pointer (some ⟨gw, 0, none⟩), .agg #[.int .i64 a, .int .i64 b], .agg #[.int .i64 (k : Int), .slice av nv cv]] w fun e w' => e = .returned (.int .i64 0) ∧ ∃ own', Wx 0 w' own' gw vk gp gm gt M ks gs fr f q (setT T s (fsum (ks.take (k - 1)) s 1) i vals nv) ∧ Wk own own' w w' := by
  obtain ⟨⟨hs, hsb⟩, hcol, -, -, -, -⟩ := hw.2 s g hq
  have h48 : fsum ks s 1 ≤ 48 := by have := fsum_le ks s 1 hk4; omega
  have hfk : fsum (ks.take (k - 1)) s 1 + nv ≤ (T s).2.length := by
    have h1 := fsum_take ks s (k - 1) (by omega)
    have h2 := fsum_take_le ks s (k - 1 + 1)
    rw [show k - 1 + 1 = k by omega] at h1 h2
    rw [if_pos hbit] at h1
    rw [hnv, getD_getElem _ _ _ (by omega), hcol]
    omega
  have hvl : vals.length = nv := by
    obtain ⟨ao, c, e, -⟩ := hvs
    simp only [Value.slice.injEq] at e
    exact e.2.1.symm
  have hm4 : nv ≤ 4 := by rw [hnv, getD_getElem _ _ _ (by omega)]; exact hk4 _ (List.getElem_mem _)
  obtain ⟨w2, hw2⟩ : ∃ X, X = (w.alloc (.cells #[.int .i64 a, .int .i64 b] 29)).alloc (.cells #[.int .i64 (k : Int), .slice av nv cv] 32) := ⟨_, rfl⟩
  have B2 : Hid (Below w.heap.size w w2) := hw2 ▸ below_on (below_alloc w _) (below_alloc _ _)
  have hx1 : w2.heap[w.heap.size]? = some (.cells #[.int .i64 a, .int .i64 b] 29 (0, 0)) := by
    rw [hw2]
    exact ((below_alloc _ _).block w.heap.size (by simp)).trans (heap_alloc_new w _)
  have hx2 : w2.heap[w.heap.size + 1]? = some (.cells #[.int .i64 (k : Int), .slice av nv cv] 32 (0, 0)) := by
    have := heap_alloc_new (w.alloc (.cells #[.int .i64 a, .int .i64 b] 29)) (.cells #[.int .i64 (k : Int), .slice av nv cv] 32)
    rw [hw2]
    simpa using this
  have HW : Hid (∀ W, Below w2.heap.size w2 W → W.cell? ⟨w.heap.size, 0, none⟩ = some (.int .i64 a) ∧ W.cell? ⟨w.heap.size, 1, none⟩ = some (.int .i64 b) ∧ W.cell? ⟨w.heap.size + 1, 0, none⟩ = some (.int .i64 (k : Int)) ∧ W.cell? ⟨w.heap.size + 1, 1, none⟩ = some (.slice av nv cv)) := fun W hW => by
    have h5 := (hW.block _ (lt_of_block hx2)).trans hx2
    refine ⟨(kx_cells hx1 hW).1, (kx_cells hx1 hW).2, ?_, ?_⟩ <;> rw [cell_of_row W _ _ _ 32 (0, 0) h5] <;> rfl
  have JH : Hid (Calls Tryz.prog 76 #[.pointer (some ⟨gw, 0, none⟩), .agg #[.int .i64 a, .int .i64 b], .int .i64 (k : Int)] w2 fun e w' => e = .returned (.int .i64 0) ∧ Below w2.heap.size w2 w') := by
    have := haspart_any (h.later B2.out) a b (k : Int) hib hks s hs (fun _ => hf)
    have e0 : hasE ks (livesOf gs fr a b) s (k : Int) = 0 := by
      unfold hasE
      rw [hl, if_pos rfl, if_pos ⟨by omega, by omega⟩, Int.toNat_natCast, if_pos hbit]
    rw [e0] at this
    exact this
  have JD : Hid (∀ W, Below w2.heap.size w2 W → Calls Tryz.prog 89 #[.pointer (some ⟨gw, 0, none⟩), .int .i64 (k : Int)] W fun e w' => e = .returned (.int .i64 (nv : Int)) ∧ w' = W) := fun W hW => by
    have hx := h.later (below_on B2.out hW)
    have := fields_any hx.2.2.1 hx.2.2.2.1.kr k hk1 hk2 hks
    rw [← getD_getElem ks (ByteArray.empty, []) (k - 1) (by omega), ← hnv] at this
    exact this
  have JP : Hid (∀ W, Below w2.heap.size w2 W → Calls Tryz.prog 88 #[.pointer (some ⟨gw, 0, none⟩), .agg #[.int .i64 a, .int .i64 b], .int .i64 (k : Int)] W fun e w' => e = .returned (.tuple #[.pointer (some ⟨g, 0, none⟩), .int .i64 (i : Int), .int .i64 ((fsum (ks.take (k - 1)) s 1 : Nat) : Int)]) ∧ Below W.heap.size W w') := fun W hW => place_any (h.later (below_on B2.out hW)) a b hib hks s g i hf hq hs hi hx h48 k hk1 hk2
  have H0 : Hid (∀ W, Below w2.heap.size w2 W → ∃ own', Wx 0 W own' gw vk gp gm gt M ks gs fr f q (setT T s (fsum (ks.take (k - 1)) s 1) i vals 0) ∧ Wk own own' w W) := fun W hW => ⟨_, by rw [setT_zero]; exact h.later (below_on B2.out hW), Wk.later (below_on B2.out hW)⟩
  have JS : Hid (∀ (W : World) (own1 : Nat → Nat) (j : Nat), j < nv → Wx 0 W own1 gw vk gp gm gt M ks gs fr f q (setT T s (fsum (ks.take (k - 1)) s 1) i vals j) → Calls Tryz.prog 91 #[.pointer (some ⟨g, 0, none⟩), .int .i64 (i : Int), .int .i64 ((fsum (ks.take (k - 1)) s 1 + j : Nat) : Int), .int .i64 (vals.getD j 0)] W fun e w' => e = .returned (.int .i64 0) ∧ ∃ own', Wx 0 w' own' gw vk gp gm gt M ks gs fr f q (setT T s (fsum (ks.take (k - 1)) s 1) i vals (j + 1)) ∧ Wk own1 own' W w') := fun W own1 j hj hW => set_one hW hq hi (by omega)
  have HV : Hid (∀ (W : World) (own1 : Nat → Nat), Wk own own1 w W → Iz W (.slice av nv cv) vals) := fun W own1 hk => hvs.frame hk.2 (fun k' e e2 => e2.1 (hv0 k' e).1)
  have hF48 : fsum (ks.take (k - 1)) s 1 ≤ 48 := Nat.le_trans (fsum_take_le ks s (k - 1)) h48
  have HVL := hide hvl
  obtain ⟨hcap, hbig⟩ : nv ≤ cv ∧ cv ≤ 9223372036854775807 := by
    obtain ⟨ao, c, e, e1, e2, -⟩ := hvs
    simp only [Value.slice.injEq] at e
    obtain ⟨rfl, rfl, rfl⟩ := e
    unfold maxLen at e2
    exact ⟨e1, by omega⟩
  generalize fsum (ks.take (k - 1)) s 1 = F at *
  clear h hw hf hq hi hx hx1 hx2 hvs hv0 hcol hsb hib hl hnv hfk hvl
  go_enter Tryz.func35, Tryz.ntmps35
  go_wp2_with fail
  rw [← hw2]
  obtain ⟨kx, hkx⟩ : ∃ k, k = w.heap.size := ⟨_, rfl⟩
  obtain ⟨kp, hkp⟩ : ∃ k, k = w.heap.size + 1 := ⟨_, rfl⟩
  rw [← hkp] at HW ⊢
  rw [← hkx] at HW ⊢
  clear hkx hkp hw2
  refine JH.out.mono ?_
  rintro e w3 ⟨rfl, hb3⟩
  have HB3 := hide hb3
  clear hb3 JH
  have HB4 := hide (below_on HB3.out (below_drew w3))
  obtain ⟨p0, p1, p2, p3⟩ := HW.out w3.drew HB4.out
  have J2 := hide (JD.out w3.drew HB4.out)
  have tn : ((nv : Int) != (nv : Int)) = false := by simp
  go_upto_region 4 with fail
  refine wp_region_noPanic ?_
  refine wp_region_late (J := fun i => i != 99) (S := fun W => W.cell? ⟨kp, 0, none⟩ = some (.int .i64 (k : Int)) ∧ W.cell? ⟨kp, 1, none⟩ = some (.slice av nv cv)) (by kernel_rfl) ⟨p2, p3⟩ (fun hHeld => ?_)
  refine' wpAnyJ_takeW (i := 0) (oi := { dst := some 21, op := Op.fieldAddr 32 (Operand.tmp 5) 1, type := 0, pos := "world.go:90", after := #[], guard := none }) (v := _) rfl (by kernel_rfl) (by kernel_rfl) (by kernel_rfl) (fun _ _ _ h => h) (Or.inl ⟨by rfl, ?hyA1⟩) ?reA1
  case hyA1 => (intro W hSw; (try dsimp only at hSw); go_simp; try with_reducible rfl)
  try simp only [Act.put, List.setIfInBounds_toArray, List.set_cons_zero, List.set_cons_succ]
  refine' wpAnyJ_take (i := 1) (oi := { dst := some 22, op := Op.load 30 (Operand.tmp 21), type := 30, pos := "world.go:90", after := #[{ on := 0, ground := Ground.data }], guard := none }) (v := _) rfl (by kernel_rfl) (by kernel_rfl) (by kernel_rfl) (by kernel_rfl) (fun _ _ _ h => h) (Or.inl ⟨by rfl, ?hyA2⟩) (by assumption) ?reA2
  case hyA2 => (intro W hSw; (try dsimp only at hSw); go_simp; try with_reducible rfl)
  try simp only [Act.put, List.setIfInBounds_toArray, List.set_cons_zero, List.set_cons_succ]
  refine' wpAnyJ_takeW (i := 2) (oi := { dst := some 23, op := Op.call { callee := Callee.builtin Builtin.len, args := #[Operand.tmp 22], argTypes := #[30] }, type := 3, pos := "world.go:90", after := #[{ on := 1, ground := Ground.data }], guard := none }) (v := _) rfl (by kernel_rfl) (by kernel_rfl) (by kernel_rfl) (fun _ _ _ h => h) (Or.inl ⟨by rfl, ?hyA3⟩) ?reA3
  case hyA3 => (intro W hSw; (try dsimp only at hSw); go_simp; try with_reducible rfl)
  try simp only [Act.put, List.setIfInBounds_toArray, List.set_cons_zero, List.set_cons_succ]
  refine' wpAnyJ_takeW (i := 3) (oi := { dst := some 24, op := Op.move (Operand.tmp 0), type := 37, pos := "world.go:90", after := #[], guard := none }) (v := _) rfl (by kernel_rfl) (by kernel_rfl) (by kernel_rfl) (fun _ _ _ h => h) (Or.inl ⟨by rfl, ?hyA4⟩) ?reA4
  case hyA4 => (intro W hSw; (try dsimp only at hSw); go_simp; try with_reducible rfl)
  try simp only [Act.put, List.setIfInBounds_toArray, List.set_cons_zero, List.set_cons_succ]
  refine' wpAnyJ_takeW (i := 4) (oi := { dst := some 25, op := Op.fieldAddr 32 (Operand.tmp 5) 0, type := 0, pos := "world.go:90", after := #[], guard := none }) (v := _) rfl (by kernel_rfl) (by kernel_rfl) (by kernel_rfl) (fun _ _ _ h => h) (Or.inl ⟨by rfl, ?hyA5⟩) ?reA5
  case hyA5 => (intro W hSw; (try dsimp only at hSw); go_simp; try with_reducible rfl)
  try simp only [Act.put, List.setIfInBounds_toArray, List.set_cons_zero, List.set_cons_succ]
  refine' wpAnyJ_take (i := 5) (oi := { dst := some 26, op := Op.load 3 (Operand.tmp 25), type := 3, pos := "world.go:90", after := #[{ on := 4, ground := Ground.data }], guard := none }) (v := _) rfl (by kernel_rfl) (by kernel_rfl) (by kernel_rfl) (by kernel_rfl) (fun _ _ _ h => h) (Or.inl ⟨by rfl, ?hyA6⟩) (by assumption) ?reA6
  case hyA6 => (intro W hSw; (try dsimp only at hSw); go_simp; try with_reducible rfl)
  try simp only [Act.put, List.setIfInBounds_toArray, List.set_cons_zero, List.set_cons_succ]
  refine wpAnyJ_ready (rs := [6]) (by kernel_rfl) (by simp) ?_
  refine AllReadyJ.cons (o := { dst := some 27, op := Op.call { callee := Callee.value (Operand.func 89), args := #[Operand.tmp 24, Operand.tmp 26], argTypes := #[37, 3] }, type := 3, pos := "world.go:90", after := #[{ on := 3, ground := Ground.data }, { on := 5, ground := Ground.data }], guard := none }) rfl (fun K hK => ?_) AllReadyJ.nil
  go_simp
  go_at_call 89
  refine J2.out.mono ?_
  rintro e w5 ⟨rfl, rfl⟩
  go_simp
  refine hK.out _ _ (fun _ _ => ⟨p2, p3⟩) ?_
  clear hK K
  try simp only [Act.put, List.setIfInBounds_toArray, List.set_cons_zero, List.set_cons_succ]
  refine' wpAnyJ_takeW (i := 7) (oi := { dst := some 28, op := Op.binOp BinOp.neq 3 (Operand.tmp 23) (Operand.tmp 27) 3, type := 4, pos := "world.go:90", after := #[{ on := 2, ground := Ground.data }, { on := 6, ground := Ground.data }], guard := none }) (v := _) rfl (by kernel_rfl) (by kernel_rfl) (by kernel_rfl) (fun _ _ _ h => h) (Or.inl ⟨by rfl, ?hyA7⟩) ?reA7
  case hyA7 => (intro W hSw; (try dsimp only at hSw); go_simp; try with_reducible rfl)
  try simp only [Act.put, List.setIfInBounds_toArray, List.set_cons_zero, List.set_cons_succ]
  refine wpAnyJ_done (by kernel_rfl) ?_ _
  refine NoPanic.normal ?_
  clear J2 JD
  have J6 := hide (JP.out w3.drew HB4.out)
  go_wp2_with fail
  refine J6.out.mono ?_
  rintro e w6 ⟨rfl, hb6⟩
  have HB6 := hide (below_on HB4.out hb6)
  clear hb6 J6 JP p0 p1 p2 p3
  obtain ⟨p0, p1, p2, p3⟩ := HW.out w6 HB6.out
  have H6 := hide (H0.out w6 HB6.out)
  clear H0 HW
  go_wp2_with fail
  clear p0 p1 p2 p3
  go_loopw [41] (fun v41 W => ∃ j : Nat, j ≤ nv ∧ v41 = .int .i64 (j : Int) ∧ Hid (∃ own', Wx 0 W own' gw vk gp gm gt M ks gs fr f q (setT T s F i vals j) ∧ Wk own own' w W)) (fun v41 _ => nv - (intOf v41).toNat)
  case atStart => exact ⟨0, Nat.zero_le _, rfl, H6⟩
  case round =>
    obtain ⟨j, hjl, rfl, HJ⟩ := hrel
    by_cases hlt : j < nv
    · have t1 : (j : Int) < (nv : Int) := by omega
      have t0 : (0 : Int) ≤ (j : Int) := by omega
      obtain ⟨own1, k1, k2⟩ := HJ.out
      obtain ⟨ao', c', e', -, -, hcell⟩ := HV.out wr own1 k2
      simp only [Value.slice.injEq] at e'
      obtain ⟨rfl, -, rfl⟩ := e'
      obtain ⟨gv, ov, rfl, ex⟩ := hcell j (by rw [HVL.out]; exact hlt)
      have hgd : vals.getD j 0 = vals[j]'(by rw [HVL.out]; exact hlt) := getD_getElem _ _ _ _
      have J9 : Hid (Calls Tryz.prog 91 #[.pointer (some ⟨g, 0, none⟩), .int .i64 (i : Int), .int .i64 ((F + j : Nat) : Int), .int .i64 (vals.getD j 0)] wr fun e w' => e = .returned (.int .i64 0) ∧ Hid (∃ own', Wx 0 w' own' gw vk gp gm gt M ks gs fr f q (setT T s F i vals (j + 1)) ∧ Wk own own' w w')) := (JS.out wr own1 j hlt k1).mono (fun e w' ⟨q1, own', q2, q3⟩ => ⟨q1, own', q2, k2.trans q3⟩)
      rw [hgd] at J9
      have t4 : IntKind.i64.wrap ((F : Int) + (j : Int)) = ((F + j : Nat) : Int) := by rw [IntKind.wrap_i64]; omega
      generalize vals[j]'(by rw [HVL.out]; exact hlt) = x at *
      obtain ⟨Fj, hFj⟩ : ∃ X : Int, X = ((F + j : Nat) : Int) := ⟨_, rfl⟩
      rw [← hFj] at t4 J9
      clear hcell k1 k2 hgd HJ hFj
      go_wp2_with fail
      refine J9.out.mono ?_
      rintro e w9 ⟨rfl, H9⟩
      clear J9
      go_wp2_with fail
      go_roundw
      case rel => exact ⟨j + 1, by omega, by go_num, H9⟩
      case measure => simp [intOf]; omega
    · obtain rfl : j = nv := by omega
      have t1 : ¬ (j : Int) < (j : Int) := by omega
      go_wp2_with fail
      go_ret
      exact ⟨rfl, HJ.out⟩
end
end Go.Proofs.YtafmiolehlagkaaGreat

/-
  World: Remove's walk.
-/
namespace Go.Proofs.YtafmiolehlagkaaGreat
open Go.RowKit
set_option maxRecDepth 100000
section
variable {w w' : World} {own : Nat → Nat} {gw gp gm gt M M' N : Nat} {vk : Value} {ks : List Kind} {gs fr gs' fr' : List Nat} {f f' : Int × Int → Option Nat} {q q' : Nat → Option Nat} {T T' : Nat → Ts} {C : Co}
/-- What Remove leaves. -/
def Removed (w w' : World) (own : Nat → Nat) (gw : Nat) (vk : Value) (gp gm gt M : Nat) (ks : List Kind) (gs fr : List Nat) (f : Int × Int → Option Nat) (q : Nat → Option Nat) (T : Nat → Ts) (e : Int × Int) (s i : Nat) (k : Nat) : Prop :=
  ∃ (vals' : List Int) (g : Nat) (own' : Nat → Nat), Wx 0 w' own' gw vk gp gm gt (M + 4) ks gs fr (fun y => if y = e then some (s ^^^ 2 ^ k) else if y = e then none else f y) (fun y => if y = s ^^^ 2 ^ k then some g else lessQ q T s y) (moreT (lessQ q T s) (lessT T s i) (s ^^^ 2 ^ k) e vals') ∧ Wk own own' w w' ∧ Wi ks (fun y => if y = e then some (s ^^^ 2 ^ k) else if y = e then none else f y) (fun y => if y = s ^^^ 2 ^ k then some g else lessQ q T s y) (moreT (lessQ q T s) (lessT T s i) (s ^^^ 2 ^ k) e vals') ∧ vals'.length = fsum ks (s ^^^ 2 ^ k) 1 ∧ ∀ r, r ∈ partsL ks (s ^^^ 2 ^ k) 1 vals' ↔ r ∈ partsL ks s 1 (rowOf (T s).2 i) ∧ r.1 ≠ k
set_option maxHeartbeats 8000000 in
theorem wremove_any (h : Wx 0 w own gw vk gp gm gt M ks gs fr f q T) (hw : Wi ks f q T) (a b : Int) (hib : InB (a, b)) (hks : ks.length ≤ 12) (hk4 : ∀ x ∈ ks, x.2.length ≤ 4) (s g i : Nat) (hf : f (a, b) = some s) (hq : q s = some g) (hi : i < (T s).1.length) (hx : (T s).1[i] = (a, b)) (hcnt : ∀ E : List (Int × Int), E.Nodup → (∀ e ∈ E, (f e).isSome = true) → E.length ≤ 200) (hM : M ≤ 800000) (k : Nat) (hk1 : 1 ≤ k) (hk2 : k ≤ ks.length) (hbit : s.testBit k = true) (hl : livesOf gs fr a b = true) :
    Calls Tryz.prog 26 #[.pointer (some ⟨gw, 0, none⟩), .agg #[.int .i64 a, .int .i64 b], .int .i64 (k : Int)] w fun e w' => e = .returned (.int .i64 0) ∧ Removed w w' own gw vk gp gm gt M ks gs fr f q T (a, b) s i k := by
  have hmf : ∀ (fn : Fn) (first cap : Array Value) (w : World), (Instr.makeFunc fn first cap).run Tryz.prog w = .ok (.func fn first cap) w := fun _ _ _ _ => rfl
  obtain ⟨⟨hs, hsb⟩, hcol, -, -, -, -⟩ := hw.2 s g hq
  obtain ⟨w2, hw2⟩ : ∃ X, X = (w.alloc (.cells #[.int .i64 a, .int .i64 b] 29)).alloc (.cells #[.int .i64 (k : Int)] 3) := ⟨_, rfl⟩
  have B2 : Hid (Below w.heap.size w w2) := hw2 ▸ below_on (below_alloc w _) (below_alloc _ _)
  have hx1 : w2.heap[w.heap.size]? = some (.cells #[.int .i64 a, .int .i64 b] 29 (0, 0)) := by
    rw [hw2]
    exact ((below_alloc _ _).block w.heap.size (by simp)).trans (heap_alloc_new w _)
  have hx2 : w2.heap[w.heap.size + 1]? = some (.cells #[.int .i64 (k : Int)] 3 (0, 0)) := by
    have := heap_alloc_new (w.alloc (.cells #[.int .i64 a, .int .i64 b] 29)) (.cells #[.int .i64 (k : Int)] 3)
    rw [hw2]
    simpa using this
  have HW : Hid (∀ W, Below w2.heap.size w2 W → W.cell? ⟨w.heap.size, 0, none⟩ = some (.int .i64 a) ∧ W.cell? ⟨w.heap.size, 1, none⟩ = some (.int .i64 b) ∧ W.cell? ⟨w.heap.size + 1, 0, none⟩ = some (.int .i64 (k : Int))) := fun W hW => by
    have h5 := (hW.block _ (lt_of_block hx2)).trans hx2
    refine ⟨(kx_cells hx1 hW).1, (kx_cells hx1 hW).2, ?_⟩
    rw [cell_of_row W _ _ _ 3 (0, 0) h5]
    rfl
  have JH : Hid (Calls Tryz.prog 76 #[.pointer (some ⟨gw, 0, none⟩), .agg #[.int .i64 a, .int .i64 b], .int .i64 (k : Int)] w2 fun e w' => e = .returned (.int .i64 0) ∧ Below w2.heap.size w2 w') := by
    have := haspart_any (h.later B2.out) a b (k : Int) hib hks s hs (fun _ => hf)
    have e0 : hasE ks (livesOf gs fr a b) s (k : Int) = 0 := by
      unfold hasE
      rw [hl, if_pos rfl, if_pos ⟨by omega, by omega⟩, Int.toNat_natCast, if_pos hbit]
    rw [e0] at this
    exact this
  have JP : Hid (∀ W, Below w2.heap.size w2 W → Calls Tryz.prog 78 #[.pointer (some ⟨gw, 0, none⟩), .agg #[.int .i64 a, .int .i64 b]] W fun e w7 => ∃ (a7 : Option Addr) (n7 c7 : Nat), e = .returned (.slice a7 n7 c7) ∧ w7.cell? ⟨w.heap.size, 0, none⟩ = some (.int .i64 a) ∧ w7.cell? ⟨w.heap.size, 1, none⟩ = some (.int .i64 b) ∧ w7.cell? ⟨w.heap.size + 1, 0, none⟩ = some (.int .i64 (k : Int)) ∧ Hid (Calls Tryz.prog 77 #[.slice a7 n7 c7, .func (.func 79) #[] #[.pointer (some ⟨w.heap.size + 1, 0, none⟩)]] w7 fun e w8 => ∃ (a8 : Option Addr) (n8 c8 : Nat), e = .returned (.slice a8 n8 c8) ∧ w8.cell? ⟨w.heap.size, 0, none⟩ = some (.int .i64 a) ∧ w8.cell? ⟨w.heap.size, 1, none⟩ = some (.int .i64 b) ∧
      Hid (Calls Tryz.prog 80 #[.pointer (some ⟨gw, 0, none⟩), .agg #[.int .i64 a, .int .i64 b]] w8 fun e w9 => e = .returned (.tuple #[]) ∧ w9.cell? ⟨w.heap.size, 0, none⟩ = some (.int .i64 a) ∧ w9.cell? ⟨w.heap.size, 1, none⟩ = some (.int .i64 b) ∧ Hid (Calls Tryz.prog 67 #[.pointer (some ⟨gw, 0, none⟩), .agg #[.int .i64 a, .int .i64 b], .slice a8 n8 c8] w9 fun e w' => e = .returned (.tuple #[]) ∧ Removed w w' own gw vk gp gm gt M ks gs fr f q T (a, b) s i k)))) := fun W hW => by
    refine (parts_any (h.later (below_on B2.out hW)) a b hib hks s g i hf hq hs hi hx hcol).mono ?_
    rintro e w7 ⟨v, rfl, L, l1, l2, l3⟩
    obtain ⟨a7, n7, c7, rfl⟩ := own_slice l1
    have hb7 : Below w2.heap.size w2 w7 := below_on hW l3
    have hbw : Below w.heap.size w w7 := below_on B2.out hb7
    have h2s := B2.out.size
    have hWs := hW.size
    have l1' := own_lower l1 (show w.heap.size ≤ W.heap.size by omega)
    have l2' : Pv w.heap.size w7 L (partsL ks s 1 (rowOf (T s).2 i)) := ⟨l2.1, fun i h1 h2 => ⟨(l2.2 i h1 h2).1, own_lower (l2.2 i h1 h2).2 (by omega)⟩⟩
    obtain ⟨A, Bq, p, R, hL, hA, hB, hp, hpv, hR, hpg, hset⟩ := parts_less l2' ((rowOf_len _ _).trans hcol) hsb hks hk1 hk2 hbit
    obtain ⟨c0, c1, c2⟩ := HW.out w7 hb7
    refine ⟨a7, n7, c7, rfl, c0, c1, c2, ?_⟩
    have hn7 : n7 = L.length := by
      obtain ⟨x, y, e⟩ := own_len l1
      simp only [Value.slice.injEq] at e
      exact e.2.1
    have hkb7 := (hb7.block _ (lt_of_block hx2)).trans hx2
    have hkx7 := (hb7.block _ (lt_of_block hx1)).trans hx1
    have l1s : w7.ownsRow w.heap.size 32 2 (.slice a7 n7 c7) n7 (pz (A ++ p :: Bq)) := by
      rw [← hL, hn7]
      rw [hn7] at l1'
      exact l1'
    refine (delete_fn hkb7 l1s hA hB hp).mono ?_
    rintro e w8 ⟨v8, rfl, ob, o8, g8⟩
    obtain ⟨a8, n8, c8, rfl⟩ := own_slice o8
    have hnk : (Value.slice a7 n7 c7).ownBlock ≠ some w.heap.size := fun e => by have := (l1.lt _ e).1; have := lt_of_block hx1; omega
    have hkx8 : w8.heap[w.heap.size]? = some (.cells #[.int .i64 a, .int .i64 b] 29 (0, 0)) := (g8.block _ (lt_of_block hkx7) (fun e => hnk e.symm)).trans hkx7
    have hb8 : Below w.heap.size w w8 := hbw.grown g8 hbw.size (fun q e => (l1s.lt q e).1)
    have pv8 : Pv w.heap.size w8 (A ++ Bq) R := hpv w8 (fun j h1 h2 => own_kept (l2'.2 j h1 h2).2 g8 (fun q e e2 => own_kinds (l2'.2 j h1 h2).2 l1s (by decide) e e2))
    obtain ⟨d0, d1⟩ := kx_cells hkx8 (Below.refl _ w8)
    refine ⟨a8, n8, c8, rfl, d0, d1, ?_⟩
    refine (drop_any (h.later hb8) a b hib s g i hf hq hs hi hx (by omega)).mono ?_
    rintro e w9 ⟨rfl, own1, r1, r2⟩
    have hnl : ¬ (rel own w 0 w.heap.size ≠ 0) := fun e => e (rel_new (Nat.le_refl _))
    obtain ⟨d0, d1⟩ := kx_cells (r2.mv.at hkx8 hnl) (Below.refl _ w9)
    refine ⟨rfl, d0, d1, ?_⟩
    have hc2 : ∀ E : List (Int × Int), E.Nodup → (∀ e ∈ E, ((fun y => if y = (a, b) then none else f y) e).isSome = true) → E.length < 200 := fun E e1 e2 => by
      have := hcnt (E ++ [(a, b)]) (by
        rw [List.nodup_append]
        refine ⟨e1, by simp, fun y hy z hz e => ?_⟩
        simp only [List.mem_singleton] at hz
        have := e2 y hy
        rw [e, hz] at this
        simp at this) (fun y hy => by
        rcases List.mem_append.1 hy with hy | hy
        · have := e2 y hy
          by_cases c : y = (a, b)
          · simp [c] at this
          · simpa [c] using this
        · rw [List.mem_singleton.1 hy, hf]; rfl)
      rw [List.length_append, List.length_singleton] at this
      omega
    have o8' : w8.ownsRow w.heap.size 32 2 (.slice a8 n8 c8) (A ++ Bq).length (pz (A ++ Bq)) := o8
    refine (pv_put o8' pv8 hb8 hpg hks hk4 r1 r2 (hw.drop hf hi hx) a b hib (if_pos rfl) hc2 (by omega)).mono ?_
    rintro e w' ⟨rfl, vals', g', own', s1, s2, s3, s4, s5⟩
    rw [hset] at s1 s3 s4 s5
    exact ⟨rfl, vals', g', own', s1, s2, s3, s4, fun r => (s5 r).trans (hR r)⟩
  clear h hf hl hx1 hx2 hw hq hi hx hcnt hcol hsb hib hk4 hbit
  go_enter Tryz.func26, Tryz.ntmps26
  go_wp2_with fail
  rw [← hw2]
  obtain ⟨kx, hkx⟩ : ∃ k, k = w.heap.size := ⟨_, rfl⟩
  obtain ⟨kp, hkp⟩ : ∃ k, k = w.heap.size + 1 := ⟨_, rfl⟩
  rw [← hkp] at HW JP ⊢
  rw [← hkx] at HW JP ⊢
  clear hkx hkp hw2
  refine JH.out.mono ?_
  rintro e w3 ⟨rfl, hb3⟩
  obtain ⟨p0, p1, p2⟩ := HW.out w3 hb3
  have J4 := hide (JP.out w3 hb3)
  clear hb3 JH HW JP
  go_wp2_with fail
  refine J4.out.mono ?_
  rintro e w7 ⟨a7, n7, c7, rfl, q0, q1, q2, J7⟩
  clear J4 p0 p1 p2
  go_wp2_with fail
  refine J7.out.mono ?_
  rintro e w8 ⟨a8, n8, c8, rfl, p0, p1, J8⟩
  clear J7 q0 q1 q2
  go_wp2_with fail
  refine J8.out.mono ?_
  rintro e w9 ⟨rfl, q0, q1, J9⟩
  clear J8 p0 p1
  go_wp2_with fail
  refine J9.out.mono ?_
  rintro e w10 ⟨rfl, HE⟩
  have HEE := hide HE
  clear HE J9
  go_wp2_with fail
  go_ret
  exact ⟨rfl, HEE.out⟩
end
/-! ### Told by who lives with what -/
section
variable {w w' : World} {own : Nat → Nat} {gw N : Nat} {ks : List Kind} {gs fr : List Nat} {C : Co}
theorem Wn.remove (h : Wn w own gw N ks gs fr C) (hN : N ≤ 800000) (a b : Int) (k : Nat) (s : Nat) (old : List Int) (hc : C (a, b) = some (s, old)) (hk1 : 1 ≤ k) (hk2 : k ≤ ks.length) (hbit : s.testBit k = true) :
    Calls Tryz.prog 26 #[.pointer (some ⟨gw, 0, none⟩), .agg #[.int .i64 a, .int .i64 b], .int .i64 (k : Int)] w fun e w' => e = .returned (.int .i64 0) ∧ ∃ (vals' : List Int) (own' : Nat → Nat), Wn w' own' gw (N + 4) ks gs fr (fun y => if y = (a, b) then some (s ^^^ 2 ^ k, vals') else C y) ∧ Wk own own' w w' ∧ vals'.length = fsum ks (s ^^^ 2 ^ k) 1 ∧ ∀ r, r ∈ partsL ks (s ^^^ 2 ^ k) 1 vals' ↔ r ∈ partsL ks s 1 old ∧ r.1 ≠ k := by
  have ho := h.ok
  obtain ⟨vk, gp, gm, gt, q, T, h1, h2, h3, h4, h5, h6⟩ := h
  have hf := fC_some hc
  obtain ⟨hs, ⟨g, hq⟩, -⟩ := h2.1 _ s hf
  obtain ⟨i, hi, hx, hrow⟩ := h3 _ s old hc
  have hl : livesOf gs fr a b = true := by rw [h5, hc]; rfl
  refine (wremove_any h1 h2 a b (inb_of ho hl) h4.2.1 (fun x hx => (h4.2.2.1 x hx).1) s g i hf hq hi hx (fun E e1 e2 => lives_cnt h5 ho.2.2.1 E e1 e2) hN k hk1 hk2 hbit hl).mono ?_
  rintro e w' ⟨rfl, vals', g', own', r1, r2, r3, r4, r5⟩
  have hfe : (fun y => if y = (a, b) then some (s ^^^ 2 ^ k) else if y = (a, b) then none else fC C y) = fC (fun y => if y = (a, b) then some (s ^^^ 2 ^ k, vals') else C y) := by
    rw [fC_more]
    funext y
    by_cases c : y = (a, b) <;> simp [c]
  rw [hfe] at r1 r3
  rw [hrow] at r5
  refine ⟨rfl, vals', own', ⟨vk, gp, gm, gt, _, _, r1, r3, ?_, h4, fun c d => ?_, fun e s' vs he => ?_⟩, r2, r4, r5⟩
  · have hd := h3.drop h2 hf hi hx
    have hwd : Wi ks (fC (fun x => if x = (a, b) then none else C x)) (lessQ q T s) (lessT T s i) := by
      rw [fC_less]
      exact h2.drop hf hi hx
    have hp := hd.put hwd (e := (a, b)) (s := s ^^^ 2 ^ k) (vals := vals') r4
    intro e s' vs he
    refine hp e s' vs ?_
    dsimp only at he ⊢
    by_cases c : e = (a, b)
    · rw [if_pos c] at he ⊢
      exact he
    · rw [if_neg c] at he ⊢
      rw [if_neg c]
      exact he
  · rw [h5]
    dsimp only
    by_cases e : (c, d) = (a, b)
    · rw [if_pos e, e, hc]
      rfl
    · rw [if_neg e]
  · dsimp only at he
    by_cases c : e = (a, b)
    · rw [if_pos c] at he
      simp only [Option.some.injEq, Prod.mk.injEq] at he
      obtain ⟨rfl, rfl⟩ := he
      have hflat := partsL_flat ks (s ^^^ 2 ^ k) 1 vals' r4
      intro z hz
      rw [← hflat] at hz
      obtain ⟨r, hr, hzr⟩ := List.mem_flatMap.1 hz
      exact h6 _ _ _ hc z (partsL_sub ks s 1 old r ((r5 r).1 hr).1 z hzr)
    · rw [if_neg c] at he
      exact h6 e s' vs he
theorem Wn.set (h : Wn w own gw N ks gs fr C) (a b : Int) (k : Nat) (s : Nat) (old vals : List Int) (hc : C (a, b) = some (s, old)) (hk1 : 1 ≤ k) (hk2 : k ≤ ks.length) (hbit : s.testBit k = true) (av : Option Addr) (nv cv : Nat) (hvs : Iz w (.slice av nv cv) vals) (hv0 : ∀ k, (Value.slice av nv cv).ownBlock = some k → own k = 0 ∧ k < w.heap.size) (hnv : nv = (ks.getD (k - 1) (ByteArray.empty, [])).2.length) (hfit : Pak.Rw.AllFit vals) :
    Calls Tryz.prog 35 #[.pointer (some ⟨gw, 0, none⟩), .agg #[.int .i64 a, .int .i64 b], .agg #[.int .i64 (k : Int), .slice av nv cv]] w fun e w' => e = .returned (.int .i64 0) ∧ ∃ (own' : Nat → Nat), Wn w' own' gw N ks gs fr (fun y => if y = (a, b) then some (s, old.take (fsum (ks.take (k - 1)) s 1) ++ vals ++ old.drop (fsum (ks.take (k - 1)) s 1 + vals.length)) else C y) ∧ Wk own own' w w' := by
  have ho := h.ok
  obtain ⟨vk, gp, gm, gt, q, T, h1, h2, h3, h4, h5, h6⟩ := h
  have hf := fC_some hc
  obtain ⟨hs, ⟨g, hq⟩, -⟩ := h2.1 _ s hf
  obtain ⟨i, hi, hx, hrow⟩ := h3 _ s old hc
  have hl : livesOf gs fr a b = true := by rw [h5, hc]; rfl
  obtain ⟨hsp, hcol, hnd, hmem, hne0, hcl⟩ := h2.2 s g hq
  have hvl : vals.length = nv := by
    obtain ⟨ao, c, e, -⟩ := hvs
    simp only [Value.slice.injEq] at e
    exact e.2.1.symm
  have hfk : fsum (ks.take (k - 1)) s 1 + nv ≤ (T s).2.length := by
    have g1 := fsum_take ks s (k - 1) (by omega)
    have g2 := fsum_take_le ks s (k - 1 + 1)
    rw [show k - 1 + 1 = k by omega] at g1 g2
    rw [if_pos hbit] at g1
    rw [hnv, getD_getElem _ _ _ (by omega), hcol]
    omega
  refine (wset_any h1 h2 a b (inb_of ho hl) h4.2.1 (fun x hx => (h4.2.2.1 x hx).1) s g i hf hq hi hx k hk1 hk2 hbit av nv cv vals hvs hv0 hl hnv).mono ?_
  rintro e w' ⟨rfl, own', r1, r2⟩
  have hfe : fC (fun y => if y = (a, b) then some (s, old.take (fsum (ks.take (k - 1)) s 1) ++ vals ++ old.drop (fsum (ks.take (k - 1)) s 1 + vals.length)) else C y) = fC C := by
    rw [fC_more]
    funext y
    by_cases c : y = (a, b)
    · rw [if_pos c, c, hf]
    · rw [if_neg c]
  have hself := row_setC_self hcl hi hfk hvl
  rw [hrow] at hself
  refine ⟨rfl, own', ⟨vk, gp, gm, gt, q, _, by rw [hfe]; exact r1, ?_, fun e s' vs he => ?_, h4, fun c d => ?_, fun e s' vs he => ?_⟩, r2⟩
  · rw [hfe]
    refine ⟨fun e s' he => ?_, fun s' g' hg' => ?_⟩
    · obtain ⟨m1, m2, m3⟩ := h2.1 e s' he
      refine ⟨m1, m2, ?_⟩
      unfold setT
      by_cases c : s' = s
      · rw [if_pos c]
        rw [c] at m3
        exact m3
      · rw [if_neg c]
        exact m3
    · obtain ⟨m1, m2, m3, m4, m5, m6⟩ := h2.2 s' g' hg'
      unfold setT
      by_cases c : s' = s
      · subst c
        rw [if_pos rfl]
        exact ⟨m1, by rw [setC_len]; exact m2, m3, m4, m5, setC_cols m6 hfk⟩
      · rw [if_neg c]
        exact ⟨m1, m2, m3, m4, m5, m6⟩
  · dsimp only at he
    by_cases c : e = (a, b)
    · rw [if_pos c] at he
      simp only [Option.some.injEq, Prod.mk.injEq] at he
      obtain ⟨rfl, rfl⟩ := he
      unfold setT
      rw [if_pos rfl]
      exact ⟨i, hi, hx.trans c.symm, by rw [hself, hvl]⟩
    · rw [if_neg c] at he
      obtain ⟨j, hj, e1, e2⟩ := h3 e s' vs he
      unfold setT
      by_cases d : s' = s
      · subst d
        rw [if_pos rfl]
        refine ⟨j, hj, e1, ?_⟩
        rw [row_setC_other hfk (fun e' => c (by subst e'; exact e1.symm.trans hx))]
        exact e2
      · rw [if_neg d]
        exact ⟨j, hj, e1, e2⟩
  · rw [h5]
    dsimp only
    by_cases e : (c, d) = (a, b)
    · rw [if_pos e, e, hc]
      rfl
    · rw [if_neg e]
  · dsimp only at he
    by_cases c : e = (a, b)
    · rw [if_pos c] at he
      simp only [Option.some.injEq, Prod.mk.injEq] at he
      obtain ⟨rfl, rfl⟩ := he
      intro z hz
      rcases List.mem_append.1 hz with hz | hz
      · rcases List.mem_append.1 hz with hz | hz
        · exact h6 _ _ _ hc z (List.mem_of_mem_take hz)
        · exact hfit z hz
      · exact h6 _ _ _ hc z (List.mem_of_mem_drop hz)
    · rw [if_neg c] at he
      exact h6 e s' vs he
end
end Go.Proofs.YtafmiolehlagkaaGreat

/-
  World: a deed on one that lives.
-/
namespace Go.Proofs.YtafmiolehlagkaaGreat
open Go.RowKit
set_option maxRecDepth 100000
/-- Something was done to one that lives: all others are as they were, nobody came or went. -/
def Deeded (w : World) (own : Nat → Nat) (gw N : Nat) (gs fr : List Nat) (C : Co) (w' : World) : Prop :=
  ∃ own' C', Wn w' own' gw (N + 4) usualK gs fr C' ∧ Wk own own' w w' ∧ ∀ x, (C' x).isSome = (C x).isSome
section
variable {w w' : World} {own : Nat → Nat} {gw N : Nat} {gs fr : List Nat} {C : Co}
theorem Deeded.same (h : Wn w own gw N usualK gs fr C) (hb : Below w.heap.size w w') : Deeded w own gw N gs fr C w' := ⟨_, C, (h.later hb).up (by omega), Wk.later hb, fun _ => rfl⟩
theorem dom_same {a b : Int} {p p' : Nat × List Int} (hc : C (a, b) = some p) (x : Int × Int) : ((fun y => if y = (a, b) then some p' else C y) x).isSome = (C x).isSome := by
  dsimp only
  by_cases c : x = (a, b)
  · rw [if_pos c, c, hc]; rfl
  · rw [if_neg c]
theorem Wn.inb (h : Wn w own gw N usualK gs fr C) {a b : Int} {p : Nat × List Int} (hc : C (a, b) = some p) : InB (a, b) ∧ livesOf gs fr a b = true := by
  have ho := h.ok
  obtain ⟨vk, gp, gm, gt, q, T, h1, h2, h3, h4, h5, h6⟩ := h
  have : livesOf gs fr a b = true := by rw [h5, hc]; rfl
  exact ⟨inb_of ho this, this⟩
theorem c4_fields {kk : Nat} (hk : kk < 4) : c4 kk = (usualK.getD kk (ByteArray.empty, [])).2.length := by
  match kk, hk with
  | 0, _ => rfl
  | 1, _ => rfl
  | 2, _ => rfl
  | 3, _ => rfl
theorem Wn.add_some (h : Wn w own gw N usualK gs fr C) (hN : N ≤ 800000) (a b : Int) (s : Nat) (old : List Int) (hc : C (a, b) = some (s, old)) (kk : Nat) (_hk : kk < 4) (y : Int) (B : Nat) (av : Option Addr) (nv cv : Nat) (ho : w.ownsRow B 2 1 (.slice av nv cv) (c4 kk) (zc (valsN y (c4 kk)))) (hv0 : ∀ k, (Value.slice av nv cv).ownBlock = some k → own k = 0) :
    Calls Tryz.prog 27 #[.pointer (some ⟨gw, 0, none⟩), .agg #[.int .i64 a, .int .i64 b], .agg #[.int .i64 ((kk : Int) + 1), .slice av nv cv]] w fun e w' => (∃ z, e = .returned (.int .i64 z)) ∧ Deeded w own gw N gs fr C w' := by
  have hn : nv = c4 kk := by
    obtain ⟨x, z, e⟩ := own_len ho
    simp only [Value.slice.injEq] at e
    exact e.2.1
  by_cases hz : comeS usualK s ((kk : Int) + 1) nv = 0
  · refine (h.add hN a b ((kk : Int) + 1) s old (valsN y (c4 kk)) hc av nv cv (Iz.own (l := valsN y (c4 kk)) (by rw [valsN_len]; exact ho)) ?_ (fun k e => ⟨hv0 k e, (ho.lt k e).2⟩) hz (valsN_fit _ _)).mono ?_
    · intro e
      rcases ho.2 with ⟨e', -⟩ | ⟨g, c', cur, e', -⟩
      · simp only [Value.slice.injEq] at e'
        exact Prod.ext e'.2.1 e'.2.2
      · simp only [Value.slice.injEq] at e'
        rw [e] at e'
        cases e'.1
    · rintro e w' ⟨rfl, vals', own', r1, r2, -⟩
      exact ⟨⟨0, rfl⟩, own', _, r1, r2, dom_same hc⟩
  · refine (h.add_err a b ((kk : Int) + 1) s old hc av nv cv _ rfl hz).mono ?_
    rintro e w' ⟨rfl, hb⟩
    exact ⟨⟨_, rfl⟩, Deeded.same h hb⟩
theorem Wn.remove_some (h : Wn w own gw N usualK gs fr C) (hN : N ≤ 800000) (a b : Int) (s : Nat) (old : List Int) (hc : C (a, b) = some (s, old)) (kk : Nat) (hk : kk < 4) :
    Calls Tryz.prog 26 #[.pointer (some ⟨gw, 0, none⟩), .agg #[.int .i64 a, .int .i64 b], .int .i64 ((kk : Int) + 1)] w fun e w' => (∃ z, e = .returned (.int .i64 z)) ∧ Deeded w own gw N gs fr C w' := by
  have e1 : ((kk + 1 : Nat) : Int) = (kk : Int) + 1 := by omega
  by_cases hbit : s.testBit (kk + 1) = true
  · have := h.remove hN a b (kk + 1) s old hc (by omega) (by show kk + 1 ≤ 4; omega) hbit
    rw [e1] at this
    refine this.mono ?_
    rintro e w' ⟨rfl, vals', own', r1, r2, -⟩
    exact ⟨⟨0, rfl⟩, own', _, r1, r2, dom_same hc⟩
  · obtain ⟨hib, hl⟩ := h.inb hc
    have h0 := h
    obtain ⟨vk, gp, gm, gt, q, T, h1, h2, h3, h4, h5, h6⟩ := h
    refine (remove_err h1 a b ((kk : Int) + 1) hib h4.2.1 s (h2.1 _ s (fC_some hc)).1 (fun _ => fC_some hc) 62 ?_ (by omega)).mono ?_
    · unfold hasE
      rw [if_pos hl, if_pos (⟨by omega, by show (kk : Int) + 1 ≤ 4; omega⟩), if_neg]
      rw [← e1, Int.toNat_natCast]
      exact hbit
    · rintro e w' ⟨rfl, hb⟩
      exact ⟨⟨_, rfl⟩, Deeded.same h0 hb⟩
theorem Wn.set_some (h : Wn w own gw N usualK gs fr C) (a b : Int) (s : Nat) (old : List Int) (hc : C (a, b) = some (s, old)) (kk : Nat) (hk : kk < 4) (y : Int) (B : Nat) (av : Option Addr) (nv cv : Nat) (ho : w.ownsRow B 2 1 (.slice av nv cv) (c4 kk) (zc (valsN y (c4 kk)))) (hv0 : ∀ k, (Value.slice av nv cv).ownBlock = some k → own k = 0) :
    Calls Tryz.prog 35 #[.pointer (some ⟨gw, 0, none⟩), .agg #[.int .i64 a, .int .i64 b], .agg #[.int .i64 ((kk : Int) + 1), .slice av nv cv]] w fun e w' => (∃ z, e = .returned (.int .i64 z)) ∧ Deeded w own gw N gs fr C w' := by
  have hn : nv = c4 kk := by
    obtain ⟨x, z, e⟩ := own_len ho
    simp only [Value.slice.injEq] at e
    exact e.2.1
  have e1 : ((kk + 1 : Nat) : Int) = (kk : Int) + 1 := by omega
  by_cases hbit : s.testBit (kk + 1) = true
  · have := h.set a b (kk + 1) s old (valsN y (c4 kk)) hc (by omega) (by show kk + 1 ≤ 4; omega) hbit av nv cv (Iz.own (l := valsN y (c4 kk)) (by rw [valsN_len]; exact ho)) (fun k e => ⟨hv0 k e, (ho.lt k e).2⟩) (by rw [hn, Nat.add_sub_cancel]; exact c4_fields hk) (valsN_fit _ _)
    rw [e1] at this
    refine this.mono ?_
    rintro e w' ⟨rfl, own', r1, r2⟩
    exact ⟨⟨0, rfl⟩, own', _, r1.up (by omega), r2, dom_same hc⟩
  · obtain ⟨hib, hl⟩ := h.inb hc
    have h0 := h
    obtain ⟨vk, gp, gm, gt, q, T, h1, h2, h3, h4, h5, h6⟩ := h
    refine (wset_err h1 a b ((kk : Int) + 1) hib h4.2.1 s (h2.1 _ s (fC_some hc)).1 (fun _ => fC_some hc) 62 ?_ (by omega) av nv cv).mono ?_
    · unfold hasE
      rw [if_pos hl, if_pos (⟨by omega, by show (kk : Int) + 1 ≤ 4; omega⟩), if_neg]
      rw [← e1, Int.toNat_natCast]
      exact hbit
    · rintro e w' ⟨rfl, hb⟩
      exact ⟨⟨_, rfl⟩, Deeded.same h0 hb⟩
end
end Go.Proofs.YtafmiolehlagkaaGreat

/-
  World: does: a deed.
-/
namespace Go.Proofs.YtafmiolehlagkaaGreat
open Go.RowKit
set_option maxRecDepth 100000
theorem box4 {w W : World} {k : Nat} {a b c d : Int} (h : w.heap[k]? = some (.cells #[.int .i64 a, .int .i64 b, .int .i64 c, .int .i64 d] 69 (0, 0))) (hb : Below w.heap.size w W) : W.cell? ⟨k, 0, none⟩ = some (.int .i64 a) ∧ W.cell? ⟨k, 1, none⟩ = some (.int .i64 b) ∧ W.cell? ⟨k, 2, none⟩ = some (.int .i64 c) ∧ W.cell? ⟨k, 3, none⟩ = some (.int .i64 d) := by
  have h' : W.heap[k]? = some (.cells #[.int .i64 a, .int .i64 b, .int .i64 c, .int .i64 d] 69 (0, 0)) := (hb.block k (lt_of_block h)).trans h
  refine ⟨?_, ?_, ?_, ?_⟩ <;> rw [cell_of_row W k _ _ 69 (0, 0) h'] <;> rfl
section
variable {w : World} {own : Nat → Nat} {gw N : Nat} {gs fr : List Nat} {C : Co}
set_option maxHeartbeats 8000000 in
theorem does2 (h : Wn w own gw N usualK gs fr C) (hN : N ≤ 800000) (A : List (Nat × Nat)) (B : Nat) (v : Value) (hA : w.ownsRow B 29 2 v A.length (ec A)) (hn : A.length ≤ 1000) (h0 : 0 < A.length) (_hA0 : ∀ k, v.ownBlock = some k → own k = 0) (hal : ∀ p ∈ A, (C ((p.1 : Int), (p.2 : Int))).isSome = true) (who what y : Int) (h3 : -9223372036854775808 ≤ who) (h4 : who ≤ 9223372036854775807) (h5 : -9223372036854775808 ≤ what) (h6 : what ≤ 9223372036854775807) :
    Calls Tryz.prog 21 #[.pointer (some ⟨gw, 0, none⟩), v, .agg #[.int .i64 2, .int .i64 who, .int .i64 what, .int .i64 y]] w fun e w' => ∃ z, e = .returned (.tuple #[v, .int .i64 z]) ∧ Deeded w own gw N gs fr C w' := by
  obtain ⟨g, c, rfl, hc1, hc2⟩ := own_form hA h0
  obtain ⟨n, hnA⟩ : ∃ n, n = A.length := ⟨_, rfl⟩
  obtain ⟨i, hi⟩ : ∃ i, i = pk who n := ⟨_, rfl⟩
  have hlt : i < n := hi ▸ pk_lt who (by omega)
  have hm : A[i] ∈ A := List.getElem_mem (by omega)
  have hap := hal _ hm
  obtain ⟨w1, hw1⟩ : ∃ X, X = w.alloc (.cells #[.int .i64 2, .int .i64 who, .int .i64 what, .int .i64 y] 69) := ⟨_, rfl⟩
  have B1 : Below w.heap.size w w1 := hw1 ▸ below_alloc w _
  have x1 : w1.heap[w.heap.size]? = some (.cells #[.int .i64 2, .int .i64 who, .int .i64 what, .int .i64 y] 69 (0, 0)) := by rw [hw1]; exact heap_alloc_new w _
  rw [← hnA] at hA h0 hn ⊢
  have hA1 := own_later hA B1
  obtain ⟨y1, y2⟩ := i_own_ent hA1 i (by omega)
  generalize A[i] = p at *
  obtain ⟨pa, pb⟩ := p
  dsimp only at y1 y2 hap
  obtain ⟨⟨s, old⟩, hc⟩ := Option.isSome_iff_exists.1 hap
  obtain ⟨kk, hk⟩ : ∃ kk, kk = pk what 4 := ⟨_, rfl⟩
  have hkk : kk < 4 := hk ▸ pk_lt what (by omega)
  have J5 : Hid (∀ W, Calls Tryz.prog 16 #[.int .i64 2, .int .i64 5] W fun e w' => e = .returned (.int .i64 2) ∧ w' = W) := fun W => pick_any 2 5 W (by omega) (by omega) (by omega) (by omega)
  have JW : Hid (∀ W, Calls Tryz.prog 16 #[.int .i64 who, .int .i64 (n : Int)] W fun e w' => e = .returned (.int .i64 (i : Int)) ∧ w' = W) := fun W => hi ▸ pick_any who n W h3 h4 (by omega) (by omega)
  obtain ⟨w2, hw2⟩ : ∃ X, X = w1.alloc (.cells #[.int .i64 (pa : Int), .int .i64 (pb : Int)] 29) := ⟨_, rfl⟩
  have B2 : Below w1.heap.size w1 w2 := hw2 ▸ below_alloc w1 _
  have x2 : w2.heap[w1.heap.size]? = some (.cells #[.int .i64 (pa : Int), .int .i64 (pb : Int)] 29 (0, 0)) := by rw [hw2]; exact heap_alloc_new w1 _
  obtain ⟨kx, hkx⟩ : ∃ k, k = w.heap.size := ⟨_, rfl⟩
  obtain ⟨ky, hky⟩ : ∃ k, k = w1.heap.size := ⟨_, rfl⟩
  rw [← hky] at x2
  rw [← hkx] at x1
  have X1 : Hid (w2.heap[kx]? = some (.cells #[.int .i64 2, .int .i64 who, .int .i64 what, .int .i64 y] 69 (0, 0))) := (B2.block kx (lt_of_block x1)).trans x1
  have X2 := hide x2
  have H2 := hide (h.later (below_on B1 B2))
  have hsw : w.heap.size ≤ w1.heap.size := B1.size
  have HK : Hid (∀ W, Below w2.heap.size w2 W → ∀ w', Deeded W (rel (rel own w 0) w2 0) gw N gs fr C w' → Hid (Deeded w own gw N gs fr C w') ∧ w'.cell? ⟨kx, 2, none⟩ = some (.int .i64 what) ∧ w'.cell? ⟨kx, 3, none⟩ = some (.int .i64 y) ∧ w'.cell? ⟨ky, 0, none⟩ = some (.int .i64 (pa : Int)) ∧ w'.cell? ⟨ky, 1, none⟩ = some (.int .i64 (pb : Int))) := fun W hW w' hd => by
    obtain ⟨own', C', r1, r2, r3⟩ := hd
    have e1 := wk_at r2 ((hW.block kx (lt_of_block X1.out)).trans X1.out) ((rel_old (lt_of_block X1.out)).trans (rel_new (by omega)))
    have e2 := wk_at r2 ((hW.block ky (lt_of_block X2.out)).trans X2.out) ((rel_old (lt_of_block X2.out)).trans (rel_new (by omega)))
    obtain ⟨-, -, z2, z3⟩ := box4 e1.1 (Below.refl _ w')
    obtain ⟨z4, z5⟩ := kx_cells e2.1 (Below.refl _ w')
    exact ⟨⟨own', C', r1, ((Wk.later (below_on B1 B2)).trans (Wk.later hW)).trans r2, r3⟩, z2, z3, z4, z5⟩
  clear h hal hap hA hA1 hm hc1 hi B1 B2 x2
  obtain ⟨b0, b1, -, -⟩ := box4 x1 (Below.refl _ w1)
  obtain ⟨a0, -, a2, a3⟩ := box4 X1.out (Below.refl _ w2)
  obtain ⟨a4, a5⟩ := kx_cells X2.out (Below.refl _ w2)
  clear x1
  have JP : Hid (∀ W, Below w2.heap.size w2 W → Calls Tryz.prog 23 #[.int .i64 what, .int .i64 y] W fun e w' => ∃ v, e = .returned (.agg #[.int .i64 ((kk : Int) + 1), v]) ∧ Hid (w'.ownsRow W.heap.size 2 1 v (c4 kk) (zc (valsN y (c4 kk)))) ∧ Hid (Below W.heap.size W w') ∧ Hid (Below w2.heap.size w2 w') ∧ (w'.cell? ⟨kx, 2, none⟩ = some (.int .i64 what) ∧ w'.cell? ⟨kx, 3, none⟩ = some (.int .i64 y) ∧ w'.cell? ⟨ky, 0, none⟩ = some (.int .i64 (pa : Int)) ∧ w'.cell? ⟨ky, 1, none⟩ = some (.int .i64 (pb : Int)))) := fun W hW => by
    refine (hk ▸ part_any what y W h5 h6 : Calls Tryz.prog 23 #[.int .i64 what, .int .i64 y] W fun e w' => ∃ v, e = .returned (.agg #[.int .i64 ((kk : Nat) + 1 : Int), v]) ∧ w'.ownsRow W.heap.size 2 1 v (c4 kk) (zc (valsN y (c4 kk))) ∧ Below W.heap.size W w').mono ?_
    rintro e w' ⟨v, rfl, ho, hb⟩
    have hb2 := below_on hW hb
    obtain ⟨-, -, z2, z3⟩ := box4 X1.out hb2
    obtain ⟨z4, z5⟩ := kx_cells X2.out hb2
    exact ⟨v, rfl, ho, hb, hb2, z2, z3, z4, z5⟩
  have J9 : Hid (∀ (W0 W : World) (av : Option Addr) (nv cv : Nat), Below w2.heap.size w2 W0 → Below W0.heap.size W0 W → W.ownsRow W0.heap.size 2 1 (.slice av nv cv) (c4 kk) (zc (valsN y (c4 kk))) → Calls Tryz.prog 27 #[.pointer (some ⟨gw, 0, none⟩), .agg #[.int .i64 (pa : Int), .int .i64 (pb : Int)], .agg #[.int .i64 ((kk : Int) + 1), .slice av nv cv]] W fun e w' => ∃ z, e = .returned (.int .i64 z) ∧ Hid (Deeded w own gw N gs fr C w') ∧ (w'.cell? ⟨kx, 2, none⟩ = some (.int .i64 what) ∧ w'.cell? ⟨kx, 3, none⟩ = some (.int .i64 y) ∧ w'.cell? ⟨ky, 0, none⟩ = some (.int .i64 (pa : Int)) ∧ w'.cell? ⟨ky, 1, none⟩ = some (.int .i64 (pb : Int)))) := fun W0 W av nv cv hW0 hW ho => by
    have hWW := below_on hW0 hW
    refine ((H2.out.later hWW).add_some hN pa pb s old hc kk hkk y W0.heap.size av nv cv ho (fun k e => rel_new (Nat.le_trans hW0.size (ho.lt k e).1))).mono ?_
    rintro e w' ⟨⟨z, rfl⟩, hd⟩
    obtain ⟨q1, q2, q3, q4⟩ := HK.out W hWW _ hd
    exact ⟨z, rfl, q1, q2, q3, q4⟩
  have e4 : IntKind.i64.wrap (1 + (kk : Int)) = (kk : Int) + 1 := by rw [IntKind.wrap_i64]; omega
  clear hnA hk h5 h6 h3 h4 hc X1 X2 H2 HK hsw hkk
  go_enter Tryz.func21, Tryz.ntmps21
  go_upto_region 1 with fail
  rw [← hw1, ← hkx]
  clear hw1 hkx
  have HKY := hide hky
  have HW2 := hide hw2
  clear hky hw2
  have t0 : ¬ (n : Int) = 0 := by omega
  have t00 : ((n : Int) == 0) = false := by rw [beq_eq_false_iff_ne]; exact t0
  have t1 : (i : Int) < (n : Int) := by omega
  have t2 : (0 : Int) ≤ (i : Int) := by omega
  go_wp2_with fail
  refine (J5.out _).mono ?_
  rintro e w5 ⟨rfl, h5⟩
  rw [h5]
  clear h5 w5
  go_wp2_with fail
  refine (JW.out _).mono ?_
  rintro e w5 ⟨rfl, h5⟩
  rw [h5]
  clear h5 w5
  go_upto_region 7 with fail
  rw [← HW2.out, ← HKY.out]
  clear HW2 HKY y1 y2 b0 b1
  go_wp2_with fail
  refine (J5.out _).mono ?_
  rintro e w5 ⟨rfl, h5⟩
  rw [h5]
  clear h5 w5
  go_upto_region 11 with fail
  go_region_held3 (fun W => W.cell? ⟨kx, 2, none⟩ = some (.int .i64 what) ∧ W.cell? ⟨kx, 3, none⟩ = some (.int .i64 y) ∧ W.cell? ⟨ky, 0, none⟩ = some (.int .i64 (pa : Int)) ∧ W.cell? ⟨ky, 1, none⟩ = some (.int .i64 (pb : Int))) (go_keep) (first | (go_at_call 23; refine (JP.out _ (below_drew w2)).mono ?_; rintro e w5 ⟨v5, rfl, HO5, HB5, HC5, k2, k3, k4, k5⟩; obtain ⟨av, nv, cv, rfl⟩ := own_slice HO5.out) | (go_at_call 27; refine (J9.out _ _ _ _ _ (below_drew w2) HB5.out HO5.out).mono ?_; rintro e w6 ⟨z, rfl, HD, k2', k3', k4', k5'⟩))
  go_wp2_with fail
  go_ret2
  exact ⟨_, rfl, HD.out⟩
set_option maxHeartbeats 8000000 in
theorem does3 (h : Wn w own gw N usualK gs fr C) (hN : N ≤ 800000) (A : List (Nat × Nat)) (B : Nat) (v : Value) (hA : w.ownsRow B 29 2 v A.length (ec A)) (hn : A.length ≤ 1000) (h0 : 0 < A.length) (_hA0 : ∀ k, v.ownBlock = some k → own k = 0) (hal : ∀ p ∈ A, (C ((p.1 : Int), (p.2 : Int))).isSome = true) (who what y : Int) (h3 : -9223372036854775808 ≤ who) (h4 : who ≤ 9223372036854775807) (h5 : -9223372036854775808 ≤ what) (h6 : what ≤ 9223372036854775807) :
    Calls Tryz.prog 21 #[.pointer (some ⟨gw, 0, none⟩), v, .agg #[.int .i64 3, .int .i64 who, .int .i64 what, .int .i64 y]] w fun e w' => ∃ z, e = .returned (.tuple #[v, .int .i64 z]) ∧ Deeded w own gw N gs fr C w' := by
  obtain ⟨g, c, rfl, hc1, hc2⟩ := own_form hA h0
  obtain ⟨n, hnA⟩ : ∃ n, n = A.length := ⟨_, rfl⟩
  obtain ⟨i, hi⟩ : ∃ i, i = pk who n := ⟨_, rfl⟩
  have hlt : i < n := hi ▸ pk_lt who (by omega)
  have hm : A[i] ∈ A := List.getElem_mem (by omega)
  have hap := hal _ hm
  obtain ⟨w1, hw1⟩ : ∃ X, X = w.alloc (.cells #[.int .i64 3, .int .i64 who, .int .i64 what, .int .i64 y] 69) := ⟨_, rfl⟩
  have B1 : Below w.heap.size w w1 := hw1 ▸ below_alloc w _
  have x1 : w1.heap[w.heap.size]? = some (.cells #[.int .i64 3, .int .i64 who, .int .i64 what, .int .i64 y] 69 (0, 0)) := by rw [hw1]; exact heap_alloc_new w _
  rw [← hnA] at hA h0 hn ⊢
  have hA1 := own_later hA B1
  obtain ⟨y1, y2⟩ := i_own_ent hA1 i (by omega)
  generalize A[i] = p at *
  obtain ⟨pa, pb⟩ := p
  dsimp only at y1 y2 hap
  obtain ⟨⟨s, old⟩, hc⟩ := Option.isSome_iff_exists.1 hap
  obtain ⟨kk, hk⟩ : ∃ kk, kk = pk what 4 := ⟨_, rfl⟩
  have hkk : kk < 4 := hk ▸ pk_lt what (by omega)
  have J5 : Hid (∀ W, Calls Tryz.prog 16 #[.int .i64 3, .int .i64 5] W fun e w' => e = .returned (.int .i64 3) ∧ w' = W) := fun W => pick_any 3 5 W (by omega) (by omega) (by omega) (by omega)
  have JW : Hid (∀ W, Calls Tryz.prog 16 #[.int .i64 who, .int .i64 (n : Int)] W fun e w' => e = .returned (.int .i64 (i : Int)) ∧ w' = W) := fun W => hi ▸ pick_any who n W h3 h4 (by omega) (by omega)
  obtain ⟨w2, hw2⟩ : ∃ X, X = w1.alloc (.cells #[.int .i64 (pa : Int), .int .i64 (pb : Int)] 29) := ⟨_, rfl⟩
  have B2 : Below w1.heap.size w1 w2 := hw2 ▸ below_alloc w1 _
  have x2 : w2.heap[w1.heap.size]? = some (.cells #[.int .i64 (pa : Int), .int .i64 (pb : Int)] 29 (0, 0)) := by rw [hw2]; exact heap_alloc_new w1 _
  obtain ⟨kx, hkx⟩ : ∃ k, k = w.heap.size := ⟨_, rfl⟩
  obtain ⟨ky, hky⟩ : ∃ k, k = w1.heap.size := ⟨_, rfl⟩
  rw [← hky] at x2
  rw [← hkx] at x1
  have X1 : Hid (w2.heap[kx]? = some (.cells #[.int .i64 3, .int .i64 who, .int .i64 what, .int .i64 y] 69 (0, 0))) := (B2.block kx (lt_of_block x1)).trans x1
  have X2 := hide x2
  have H2 := hide (h.later (below_on B1 B2))
  have hsw : w.heap.size ≤ w1.heap.size := B1.size
  have HK : Hid (∀ W, Below w2.heap.size w2 W → ∀ w', Deeded W (rel (rel own w 0) w2 0) gw N gs fr C w' → Hid (Deeded w own gw N gs fr C w') ∧ w'.cell? ⟨kx, 2, none⟩ = some (.int .i64 what) ∧ w'.cell? ⟨kx, 3, none⟩ = some (.int .i64 y) ∧ w'.cell? ⟨ky, 0, none⟩ = some (.int .i64 (pa : Int)) ∧ w'.cell? ⟨ky, 1, none⟩ = some (.int .i64 (pb : Int))) := fun W hW w' hd => by
    obtain ⟨own', C', r1, r2, r3⟩ := hd
    have e1 := wk_at r2 ((hW.block kx (lt_of_block X1.out)).trans X1.out) ((rel_old (lt_of_block X1.out)).trans (rel_new (by omega)))
    have e2 := wk_at r2 ((hW.block ky (lt_of_block X2.out)).trans X2.out) ((rel_old (lt_of_block X2.out)).trans (rel_new (by omega)))
    obtain ⟨-, -, z2, z3⟩ := box4 e1.1 (Below.refl _ w')
    obtain ⟨z4, z5⟩ := kx_cells e2.1 (Below.refl _ w')
    exact ⟨⟨own', C', r1, ((Wk.later (below_on B1 B2)).trans (Wk.later hW)).trans r2, r3⟩, z2, z3, z4, z5⟩
  clear h hal hap hA hA1 hm hc1 hi B1 B2 x2
  obtain ⟨b0, b1, -, -⟩ := box4 x1 (Below.refl _ w1)
  obtain ⟨a0, -, a2, a3⟩ := box4 X1.out (Below.refl _ w2)
  obtain ⟨a4, a5⟩ := kx_cells X2.out (Below.refl _ w2)
  clear x1
  have J4 : Hid (∀ W, Calls Tryz.prog 16 #[.int .i64 what, .int .i64 4] W fun e w' => e = .returned (.int .i64 (kk : Int)) ∧ w' = W) := fun W => hk ▸ pick_any what 4 W h5 h6 (by omega) (by omega)
  have J9 : Hid (∀ W, Below w2.heap.size w2 W → Calls Tryz.prog 26 #[.pointer (some ⟨gw, 0, none⟩), .agg #[.int .i64 (pa : Int), .int .i64 (pb : Int)], .int .i64 ((kk : Int) + 1)] W fun e w' => ∃ z, e = .returned (.int .i64 z) ∧ Hid (Deeded w own gw N gs fr C w') ∧ (w'.cell? ⟨kx, 2, none⟩ = some (.int .i64 what) ∧ w'.cell? ⟨ky, 0, none⟩ = some (.int .i64 (pa : Int)) ∧ w'.cell? ⟨ky, 1, none⟩ = some (.int .i64 (pb : Int)))) := fun W hW => by
    refine ((H2.out.later hW).remove_some hN pa pb s old hc kk hkk).mono ?_
    rintro e w' ⟨⟨z, rfl⟩, hd⟩
    obtain ⟨q1, q2, q3, q4⟩ := HK.out W hW _ hd
    exact ⟨z, rfl, q1, q2, q4⟩
  have e4 : IntKind.i64.wrap (1 + (kk : Int)) = (kk : Int) + 1 := by rw [IntKind.wrap_i64]; omega
  clear hnA hk h5 h6 h3 h4 hc X1 X2 H2 HK hsw hkk
  go_enter Tryz.func21, Tryz.ntmps21
  go_upto_region 1 with fail
  rw [← hw1, ← hkx]
  clear hw1 hkx
  have HKY := hide hky
  have HW2 := hide hw2
  clear hky hw2
  have t0 : ¬ (n : Int) = 0 := by omega
  have t00 : ((n : Int) == 0) = false := by rw [beq_eq_false_iff_ne]; exact t0
  have t1 : (i : Int) < (n : Int) := by omega
  have t2 : (0 : Int) ≤ (i : Int) := by omega
  go_wp2_with fail
  refine (J5.out _).mono ?_
  rintro e w5 ⟨rfl, h5⟩
  rw [h5]
  clear h5 w5
  go_wp2_with fail
  refine (JW.out _).mono ?_
  rintro e w5 ⟨rfl, h5⟩
  rw [h5]
  clear h5 w5
  go_upto_region 7 with fail
  rw [← HW2.out, ← HKY.out]
  clear HW2 HKY y1 y2 b0 b1
  go_wp2_with fail
  refine (J5.out _).mono ?_
  rintro e w5 ⟨rfl, h5⟩
  rw [h5]
  clear h5 w5
  go_upto_region 13 with fail
  go_region_held3 (fun W => W.cell? ⟨kx, 2, none⟩ = some (.int .i64 what) ∧ W.cell? ⟨ky, 0, none⟩ = some (.int .i64 (pa : Int)) ∧ W.cell? ⟨ky, 1, none⟩ = some (.int .i64 (pb : Int))) (go_keep) (first | (go_at_call 16; refine (J4.out _).mono ?_; rintro e w5 ⟨rfl, rfl⟩) | (go_at_call 26; refine (J9.out _ (below_drew w2)).mono ?_; rintro e w6 ⟨z, rfl, HD, k2, k3, k4⟩))
  go_wp2_with fail
  go_ret2
  exact ⟨_, rfl, HD.out⟩
set_option maxHeartbeats 8000000 in
theorem does4 (h : Wn w own gw N usualK gs fr C) (_hN : N ≤ 800000) (A : List (Nat × Nat)) (B : Nat) (v : Value) (hA : w.ownsRow B 29 2 v A.length (ec A)) (hn : A.length ≤ 1000) (h0 : 0 < A.length) (_hA0 : ∀ k, v.ownBlock = some k → own k = 0) (hal : ∀ p ∈ A, (C ((p.1 : Int), (p.2 : Int))).isSome = true) (who what y : Int) (h3 : -9223372036854775808 ≤ who) (h4 : who ≤ 9223372036854775807) (h5 : -9223372036854775808 ≤ what) (h6 : what ≤ 9223372036854775807) :
    Calls Tryz.prog 21 #[.pointer (some ⟨gw, 0, none⟩), v, .agg #[.int .i64 4, .int .i64 who, .int .i64 what, .int .i64 y]] w fun e w' => ∃ z, e = .returned (.tuple #[v, .int .i64 z]) ∧ Deeded w own gw N gs fr C w' := by
  obtain ⟨g, c, rfl, hc1, hc2⟩ := own_form hA h0
  obtain ⟨n, hnA⟩ : ∃ n, n = A.length := ⟨_, rfl⟩
  obtain ⟨i, hi⟩ : ∃ i, i = pk who n := ⟨_, rfl⟩
  have hlt : i < n := hi ▸ pk_lt who (by omega)
  have hm : A[i] ∈ A := List.getElem_mem (by omega)
  have hap := hal _ hm
  obtain ⟨w1, hw1⟩ : ∃ X, X = w.alloc (.cells #[.int .i64 4, .int .i64 who, .int .i64 what, .int .i64 y] 69) := ⟨_, rfl⟩
  have B1 : Below w.heap.size w w1 := hw1 ▸ below_alloc w _
  have x1 : w1.heap[w.heap.size]? = some (.cells #[.int .i64 4, .int .i64 who, .int .i64 what, .int .i64 y] 69 (0, 0)) := by rw [hw1]; exact heap_alloc_new w _
  rw [← hnA] at hA h0 hn ⊢
  have hA1 := own_later hA B1
  obtain ⟨y1, y2⟩ := i_own_ent hA1 i (by omega)
  generalize A[i] = p at *
  obtain ⟨pa, pb⟩ := p
  dsimp only at y1 y2 hap
  obtain ⟨⟨s, old⟩, hc⟩ := Option.isSome_iff_exists.1 hap
  obtain ⟨kk, hk⟩ : ∃ kk, kk = pk what 4 := ⟨_, rfl⟩
  have hkk : kk < 4 := hk ▸ pk_lt what (by omega)
  have J5 : Hid (∀ W, Calls Tryz.prog 16 #[.int .i64 4, .int .i64 5] W fun e w' => e = .returned (.int .i64 4) ∧ w' = W) := fun W => pick_any 4 5 W (by omega) (by omega) (by omega) (by omega)
  have JW : Hid (∀ W, Calls Tryz.prog 16 #[.int .i64 who, .int .i64 (n : Int)] W fun e w' => e = .returned (.int .i64 (i : Int)) ∧ w' = W) := fun W => hi ▸ pick_any who n W h3 h4 (by omega) (by omega)
  obtain ⟨w2, hw2⟩ : ∃ X, X = w1.alloc (.cells #[.int .i64 (pa : Int), .int .i64 (pb : Int)] 29) := ⟨_, rfl⟩
  have B2 : Below w1.heap.size w1 w2 := hw2 ▸ below_alloc w1 _
  have x2 : w2.heap[w1.heap.size]? = some (.cells #[.int .i64 (pa : Int), .int .i64 (pb : Int)] 29 (0, 0)) := by rw [hw2]; exact heap_alloc_new w1 _
  obtain ⟨kx, hkx⟩ : ∃ k, k = w.heap.size := ⟨_, rfl⟩
  obtain ⟨ky, hky⟩ : ∃ k, k = w1.heap.size := ⟨_, rfl⟩
  rw [← hky] at x2
  rw [← hkx] at x1
  have X1 : Hid (w2.heap[kx]? = some (.cells #[.int .i64 4, .int .i64 who, .int .i64 what, .int .i64 y] 69 (0, 0))) := (B2.block kx (lt_of_block x1)).trans x1
  have X2 := hide x2
  have H2 := hide (h.later (below_on B1 B2))
  have hsw : w.heap.size ≤ w1.heap.size := B1.size
  have HK : Hid (∀ W, Below w2.heap.size w2 W → ∀ w', Deeded W (rel (rel own w 0) w2 0) gw N gs fr C w' → Hid (Deeded w own gw N gs fr C w') ∧ w'.cell? ⟨kx, 2, none⟩ = some (.int .i64 what) ∧ w'.cell? ⟨kx, 3, none⟩ = some (.int .i64 y) ∧ w'.cell? ⟨ky, 0, none⟩ = some (.int .i64 (pa : Int)) ∧ w'.cell? ⟨ky, 1, none⟩ = some (.int .i64 (pb : Int))) := fun W hW w' hd => by
    obtain ⟨own', C', r1, r2, r3⟩ := hd
    have e1 := wk_at r2 ((hW.block kx (lt_of_block X1.out)).trans X1.out) ((rel_old (lt_of_block X1.out)).trans (rel_new (by omega)))
    have e2 := wk_at r2 ((hW.block ky (lt_of_block X2.out)).trans X2.out) ((rel_old (lt_of_block X2.out)).trans (rel_new (by omega)))
    obtain ⟨-, -, z2, z3⟩ := box4 e1.1 (Below.refl _ w')
    obtain ⟨z4, z5⟩ := kx_cells e2.1 (Below.refl _ w')
    exact ⟨⟨own', C', r1, ((Wk.later (below_on B1 B2)).trans (Wk.later hW)).trans r2, r3⟩, z2, z3, z4, z5⟩
  clear h hal hap hA hA1 hm hc1 hi B1 B2 x2
  obtain ⟨b0, b1, -, -⟩ := box4 x1 (Below.refl _ w1)
  obtain ⟨a0, -, a2, a3⟩ := box4 X1.out (Below.refl _ w2)
  obtain ⟨a4, a5⟩ := kx_cells X2.out (Below.refl _ w2)
  clear x1
  have JP : Hid (∀ W, Below w2.heap.size w2 W → Calls Tryz.prog 23 #[.int .i64 what, .int .i64 y] W fun e w' => ∃ v, e = .returned (.agg #[.int .i64 ((kk : Int) + 1), v]) ∧ Hid (w'.ownsRow W.heap.size 2 1 v (c4 kk) (zc (valsN y (c4 kk)))) ∧ Hid (Below W.heap.size W w') ∧ Hid (Below w2.heap.size w2 w') ∧ (w'.cell? ⟨kx, 2, none⟩ = some (.int .i64 what) ∧ w'.cell? ⟨kx, 3, none⟩ = some (.int .i64 y) ∧ w'.cell? ⟨ky, 0, none⟩ = some (.int .i64 (pa : Int)) ∧ w'.cell? ⟨ky, 1, none⟩ = some (.int .i64 (pb : Int)))) := fun W hW => by
    refine (hk ▸ part_any what y W h5 h6 : Calls Tryz.prog 23 #[.int .i64 what, .int .i64 y] W fun e w' => ∃ v, e = .returned (.agg #[.int .i64 ((kk : Nat) + 1 : Int), v]) ∧ w'.ownsRow W.heap.size 2 1 v (c4 kk) (zc (valsN y (c4 kk))) ∧ Below W.heap.size W w').mono ?_
    rintro e w' ⟨v, rfl, ho, hb⟩
    have hb2 := below_on hW hb
    obtain ⟨-, -, z2, z3⟩ := box4 X1.out hb2
    obtain ⟨z4, z5⟩ := kx_cells X2.out hb2
    exact ⟨v, rfl, ho, hb, hb2, z2, z3, z4, z5⟩
  have J9 : Hid (∀ (W0 W : World) (av : Option Addr) (nv cv : Nat), Below w2.heap.size w2 W0 → Below W0.heap.size W0 W → W.ownsRow W0.heap.size 2 1 (.slice av nv cv) (c4 kk) (zc (valsN y (c4 kk))) → Calls Tryz.prog 35 #[.pointer (some ⟨gw, 0, none⟩), .agg #[.int .i64 (pa : Int), .int .i64 (pb : Int)], .agg #[.int .i64 ((kk : Int) + 1), .slice av nv cv]] W fun e w' => ∃ z, e = .returned (.int .i64 z) ∧ Hid (Deeded w own gw N gs fr C w') ∧ (w'.cell? ⟨kx, 2, none⟩ = some (.int .i64 what) ∧ w'.cell? ⟨kx, 3, none⟩ = some (.int .i64 y) ∧ w'.cell? ⟨ky, 0, none⟩ = some (.int .i64 (pa : Int)) ∧ w'.cell? ⟨ky, 1, none⟩ = some (.int .i64 (pb : Int)))) := fun W0 W av nv cv hW0 hW ho => by
    have hWW := below_on hW0 hW
    refine ((H2.out.later hWW).set_some pa pb s old hc kk hkk y W0.heap.size av nv cv ho (fun k e => rel_new (Nat.le_trans hW0.size (ho.lt k e).1))).mono ?_
    rintro e w' ⟨⟨z, rfl⟩, hd⟩
    obtain ⟨q1, q2, q3, q4⟩ := HK.out W hWW _ hd
    exact ⟨z, rfl, q1, q2, q3, q4⟩
  have e4 : IntKind.i64.wrap (1 + (kk : Int)) = (kk : Int) + 1 := by rw [IntKind.wrap_i64]; omega
  clear hnA hk h5 h6 h3 h4 hc X1 X2 H2 HK hsw hkk
  go_enter Tryz.func21, Tryz.ntmps21
  go_upto_region 1 with fail
  rw [← hw1, ← hkx]
  clear hw1 hkx
  have HKY := hide hky
  have HW2 := hide hw2
  clear hky hw2
  have t0 : ¬ (n : Int) = 0 := by omega
  have t00 : ((n : Int) == 0) = false := by rw [beq_eq_false_iff_ne]; exact t0
  have t1 : (i : Int) < (n : Int) := by omega
  have t2 : (0 : Int) ≤ (i : Int) := by omega
  go_wp2_with fail
  refine (J5.out _).mono ?_
  rintro e w5 ⟨rfl, h5⟩
  rw [h5]
  clear h5 w5
  go_wp2_with fail
  refine (JW.out _).mono ?_
  rintro e w5 ⟨rfl, h5⟩
  rw [h5]
  clear h5 w5
  go_upto_region 7 with fail
  rw [← HW2.out, ← HKY.out]
  clear HW2 HKY y1 y2 b0 b1
  go_wp2_with fail
  refine (J5.out _).mono ?_
  rintro e w5 ⟨rfl, h5⟩
  rw [h5]
  clear h5 w5
  go_upto_region 14 with fail
  go_region_held3 (fun W => W.cell? ⟨kx, 2, none⟩ = some (.int .i64 what) ∧ W.cell? ⟨kx, 3, none⟩ = some (.int .i64 y) ∧ W.cell? ⟨ky, 0, none⟩ = some (.int .i64 (pa : Int)) ∧ W.cell? ⟨ky, 1, none⟩ = some (.int .i64 (pb : Int))) (go_keep) (first | (go_at_call 23; refine (JP.out _ (below_drew w2)).mono ?_; rintro e w5 ⟨v5, rfl, HO5, HB5, HC5, k2, k3, k4, k5⟩; obtain ⟨av, nv, cv, rfl⟩ := own_slice HO5.out) | (go_at_call 35; refine (J9.out _ _ _ _ _ (below_drew w2) HB5.out HO5.out).mono ?_; rintro e w6 ⟨z, rfl, HD, k2', k3', k4', k5'⟩))
  go_wp2_with fail
  go_ret2
  exact ⟨_, rfl, HD.out⟩
end
end Go.Proofs.YtafmiolehlagkaaGreat

/-
  World: does: the first one comes.
-/
namespace Go.Proofs.YtafmiolehlagkaaGreat
open Go.RowKit
set_option maxRecDepth 100000
section
variable {w w2 w3 : World} {own : Nat → Nat} {gw N : Nat} {gs fr : List Nat} {C : Co}
/-- A Spawn of one part, where there is room. -/
theorem Wn.spawn_one (h : Wn w own gw N usualK gs fr C) (hN : N ≤ 800000) (hroom : fr ≠ [] ∨ gs.length < 200) (hb : Below w.heap.size w w2) (kk : Nat) (hk : kk < 4) (y : Int) (a : Option Addr) (n c : Nat) (ho : w2.ownsRow w.heap.size 2 1 (.slice a n c) (c4 kk) (zc (valsN y (c4 kk)))) (hw3 : w3 = w2.alloc (.cells #[.int .i64 ((kk : Int) + 1), .slice a n c] 32)) :
    Calls Tryz.prog 24 #[.pointer (some ⟨gw, 0, none⟩), .slice (some ⟨w2.heap.size, 0, none⟩) 1 1] w3 fun e w' => ∃ p : Nat × Nat, e = .returned (.tuple #[.agg #[.int .i64 (p.1 : Int), .int .i64 (p.2 : Int)], .int .i64 0]) ∧ ∃ own' gs' fr' C', Wn w' own' gw (N + 3) usualK gs' fr' C' ∧ Wk own own' w w' ∧ (C' ((p.1 : Int), (p.2 : Int))).isSome = true := by
  have hb3 : Below w2.heap.size w2 w3 := hw3 ▸ below_alloc w2 _
  have hx3 : w3.heap[w2.heap.size]? = some (.cells #[.int .i64 ((kk : Int) + 1), .slice a n c] 32 (0, 0)) := by rw [hw3]; exact heap_alloc_new w2 _
  have h3 := h.later (below_on hb hb3)
  have ho3 := own_later ho hb3
  have hn : n = c4 kk := by
    obtain ⟨x, z, e⟩ := own_len ho
    simp only [Value.slice.injEq] at e
    exact e.2.1
  have hrp : Rp w3 (.slice (some ⟨w2.heap.size, 0, none⟩) 1 1) [((kk : Int) + 1, a, n, c)] := by
    refine .inr ⟨_, 0, 1, rfl, Nat.le_refl 1, by unfold maxLen; omega, fun j u hj => ?_⟩
    rw [Nat.zero_add, cell_of_row w3 _ j _ 32 (0, 0) hx3]
    simpa [pz] using hj
  have hcome := one_come kk hk a n c hn
  have hsb := hb.size
  have hlt := lt_of_block hx3
  refine (h3.spawn (by omega) hroom _ [((kk : Int) + 1, a, n, c)] (fun _ => valsN y (c4 kk)) hrp hcome ?_ ?_ ?_ ?_).mono ?_
  · intro k e
    simp only [Value.ownBlock, Option.some.injEq] at e
    subst e
    exact ⟨rel_new hsb, hlt⟩
  · intro p hp
    rw [List.mem_singleton.1 hp]
    refine ⟨?_, fun e => ?_⟩
    · have := Iz.own (l := valsN y (c4 kk)) (by rw [valsN_len]; exact ho3)
      exact this
    · rcases ho3.2 with ⟨e', -⟩ | ⟨g, c', cur, e', -⟩
      · simp only [Value.slice.injEq] at e'
        exact Prod.ext e'.2.1 e'.2.2
      · simp only [Value.slice.injEq] at e'
        dsimp only at e
        rw [e] at e'
        cases e'.1
  · intro p hp k e
    rw [List.mem_singleton.1 hp] at e
    have := ho3.lt k e
    exact ⟨rel_new this.1, this.2⟩
  · intro p _
    exact valsN_fit _ _
  · rintro e w' ⟨rfl, vals, own', r1, r2, -⟩
    exact ⟨takeE gs fr, rfl, own', _, _, _, r1, (Wk.later (below_on hb hb3)).trans r2, by simp⟩
end
def First (w : World) (own : Nat → Nat) (gw N : Nat) (v' : Value) (w' : World) : Prop :=
  ∃ p own' gs' fr' C', Wn w' own' gw (N + 3) usualK gs' fr' C' ∧ Wk own own' w w' ∧ w'.ownsRow w.heap.size 29 2 v' 1 (ec [p]) ∧ (∀ k, v'.ownBlock = some k → own' k = 0) ∧ (C' ((p.1 : Int), (p.2 : Int))).isSome = true
section
variable {w : World} {own : Nat → Nat} {gw N : Nat} {gs fr : List Nat} {C : Co}
set_option maxHeartbeats 8000000 in
theorem does_first (h : Wn w own gw N usualK gs fr C) (hN : N ≤ 800000) (hroom : fr ≠ [] ∨ gs.length < 200) (kd who what y : Int) (h1 : -9223372036854775808 ≤ kd) (h2 : kd ≤ 9223372036854775807) (h5 : -9223372036854775808 ≤ what) (h6 : what ≤ 9223372036854775807) (hx : pk kd 5 ≠ 0) :
    Calls Tryz.prog 21 #[.pointer (some ⟨gw, 0, none⟩), .slice none 0 0, .agg #[.int .i64 kd, .int .i64 who, .int .i64 what, .int .i64 y]] w fun e w' => ∃ v', e = .returned (.tuple #[v', .int .i64 0]) ∧ First w own gw N v' w' := by
  obtain ⟨i29, hi29, hy0, hy1, hy2⟩ := info_parts info32
  obtain ⟨w1, hw1⟩ : ∃ X, X = w.alloc (.cells #[.int .i64 kd, .int .i64 who, .int .i64 what, .int .i64 y] 69) := ⟨_, rfl⟩
  have B1 : Hid (Below w.heap.size w w1) := hw1 ▸ below_alloc w _
  have x1 : w1.heap[w.heap.size]? = some (.cells #[.int .i64 kd, .int .i64 who, .int .i64 what, .int .i64 y] 69 (0, 0)) := by rw [hw1]; exact heap_alloc_new w _
  obtain ⟨kx, hkx⟩ : ∃ k, k = w.heap.size := ⟨_, rfl⟩
  rw [← hkx] at x1
  obtain ⟨b0, -, b2, b3⟩ := box4 x1 (Below.refl _ w1)
  have J5 := hide (pick_any kd 5 w1 h1 h2 (by omega) (by omega))
  have t5 : ((pk kd 5 : Int) == 0) = false := by rw [beq_eq_false_iff_ne]; omega
  generalize pk kd 5 = x at *
  have JPt := hide (part_any what y w1 h5 h6)
  have hk4 : pk what 4 < 4 := pk_lt what (by omega)
  generalize pk what 4 = kk at *
  have H := hide h
  have HR := hide hroom
  clear h hroom x1 h1 h2 h5 h6 hx
  go_enter Tryz.func21, Tryz.ntmps21
  go_upto_region 1 with fail
  rw [← hw1, ← hkx]
  clear hw1 hkx
  go_wp2_with fail
  refine J5.out.mono ?_
  rintro e w5 ⟨rfl, h5⟩
  rw [h5]
  clear h5 w5 J5
  go_wp2_with fail
  refine JPt.out.mono ?_
  rintro e w2 ⟨vp, rfl, ho2, hb2⟩
  obtain ⟨ap, np, cp, rfl⟩ := own_slice ho2
  obtain ⟨w3, hw3⟩ : ∃ X, X = w2.alloc (.cells #[.int .i64 ((kk : Int) + 1), .slice ap np cp] 32) := ⟨_, rfl⟩
  have JS := hide (H.out.spawn_one hN HR.out (below_on B1.out hb2) kk hk4 y ap np cp (own_lower ho2 B1.out.size) hw3)
  clear ho2 hb2 JPt H HR
  go_wp2_with fail
  rw [← hw3]
  refine JS.out.mono ?_
  rintro e w4 ⟨⟨pa, pb⟩, rfl, HX⟩
  have HX4 := hide HX
  dsimp only at HX4
  obtain ⟨w5, hw5⟩ : ∃ X, X = w4.alloc (.cells #[.int .i64 (pa : Int), .int .i64 (pb : Int)] 29) := ⟨_, rfl⟩
  have x5 : w5.heap[w4.heap.size]? = some (.cells #[.int .i64 (pa : Int), .int .i64 (pb : Int)] 29 (0, 0)) := by
    rw [hw5]
    exact heap_alloc_new w4 _
  have B5 : Hid (Below w4.heap.size w4 w5) := hw5 ▸ below_alloc w4 _
  obtain ⟨ky, hky⟩ : ∃ k, k = w4.heap.size := ⟨_, rfl⟩
  rw [← hky] at x5
  obtain ⟨z1, z2⟩ := kx_cells x5 (Below.refl _ w5)
  have HSZ : Hid (w.heap.size ≤ w5.heap.size + 1) := by
    obtain ⟨own', gs', fr', C', -, q2, -⟩ := HX
    have := q2.2.size
    have := B5.out.size
    unfold Hid
    omega
  have HO : Hid ((w5.alloc (.cells #[.int .i64 (pa : Int), .int .i64 (pb : Int)] 29)).ownsRow w.heap.size 29 2 (.slice none 0 0) 0 []) := World.ownsRow_nil _ _ _ _
  have HF : Hid (∀ (v9 : Value) (w9 : World), w9.ownsRow w.heap.size 29 2 v9 (0 + 1) ([] ++ [.int .i64 (pa : Int), .int .i64 (pb : Int)]) → (w5.alloc (.cells #[.int .i64 (pa : Int), .int .i64 (pb : Int)] 29)).grownBy w9 (Value.slice none 0 0).ownBlock → (v9.ownBlock = (Value.slice none 0 0).ownBlock ∨ v9.ownBlock = some (w5.heap.size + 1)) → First w own gw N v9 w9) := fun v9 w9 k1 k2 k3 => by
    obtain ⟨own', gs', fr', C', q1, q2, q3⟩ := HX4.out
    have hb6 := below_on B5.out (below_alloc w5 (.cells #[.int .i64 (pa : Int), .int .i64 (pb : Int)] 29))
    have hm : Mv (w5.alloc (.cells #[.int .i64 (pa : Int), .int .i64 (pb : Int)] 29)) w9 (fun _ => False) := (Mv.refl _ _).grown k2 (fun k _ e => by cases e)
    have hb9 : Below w4.heap.size w4 w9 := hb6.trans (hm.below hb6.size (fun _ e => e.elim))
    refine ⟨(pa, pb), _, gs', fr', C', q1.later hb9, q2.trans (Wk.later hb9), k1, fun k e => ?_, q3⟩
    rcases k3 with c | c
    · rw [c] at e
      cases e
    · rw [c] at e
      obtain rfl := Option.some.inj e
      have := B5.out.size
      exact rel_new (by omega)
  clear HX HX4 JS hw3 B5 x5 b0 b2 b3
  dsimp only
  go_upto_region 3 with fail
  rw [← hw5, ← hky]
  clear hw5 hky
  go_wp2_with (at_builtin; refine wpList_append_own_at _ rfl _ _ 39 rfl w.heap.size 29 i29 (.agg #[.int .i64 0, .int .i64 0]) 2 16 Tryz.underlying39 hi29 hy0 hy1 hy2 rfl (by decide) _ 0 [] rfl HO.out ⟨w5.heap.size, 0, none⟩ 1 1 [.int .i64 (pa : Int), .int .i64 (pb : Int)] rfl rfl ?n1 ?n2 ?n3 ?n4 ?n5 ?_)
  case n1 =>
    intro j u hj
    match j, hj with
    | 0, hj => simp at hj; subst hj; simp [Addr.add]
    | 1, hj => simp at hj; subst hj; simp [Addr.add]
  case n2 => first | exact ⟨rfl, rfl⟩ | (intro u hu; simp at hu; rcases hu with rfl | rfl <;> rfl)
  case n3 => unfold maxLen; omega
  case n4 => omega
  case n5 => first | exact HSZ.out | (simp; exact HSZ.out)
  intro v9 w9 ho9 hg9 _ ha9
  have H9 := hide (HF.out v9 w9 ho9 hg9 (by simpa using ha9))
  obtain ⟨a9, c9, rfl⟩ := own_len ho9
  clear ho9 hg9 ha9 HF HO HSZ z1 z2
  go_wp2_with fail
  go_ret2
  exact ⟨_, rfl, H9.out⟩
end
end Go.Proofs.YtafmiolehlagkaaGreat

/-
  World: what a world tells hangs on who lives with what alone.
-/
namespace Go.Proofs.YtafmiolehlagkaaGreat
open Go.RowKit
set_option maxRecDepth 100000
/-- Two lists that rise and have the same elements are the same. -/
theorem rise_ext {α : Type} (κ : α → Int) : ∀ (l l' : List α), l.Pairwise (fun x y => κ x < κ y) → l'.Pairwise (fun x y => κ x < κ y) → (∀ e, e ∈ l ↔ e ∈ l') → l = l'
  | [], [], _, _, _ => rfl
  | [], b :: t, _, _, h => by
    have := (h b).2 List.mem_cons_self
    cases this
  | a :: t, [], _, _, h => by
    have := (h a).1 List.mem_cons_self
    cases this
  | a :: t, b :: t', h1, h2, h => by
    obtain ⟨a1, a2⟩ := List.pairwise_cons.1 h1
    obtain ⟨b1, b2⟩ := List.pairwise_cons.1 h2
    have hab : a = b := by
      rcases List.mem_cons.1 ((h a).1 List.mem_cons_self) with e | e
      · exact e
      · rcases List.mem_cons.1 ((h b).2 List.mem_cons_self) with e' | e'
        · exact e'.symm
        · have := b1 a e
          have := a1 b e'
          omega
    subst hab
    refine congrArg _ (rise_ext κ t t' a2 b2 (fun e => ?_))
    constructor
    · intro he
      rcases List.mem_cons.1 ((h e).1 (List.mem_cons_of_mem _ he)) with e' | e'
      · subst e'
        have := a1 e he
        omega
      · exact e'
    · intro he
      rcases List.mem_cons.1 ((h e).2 (List.mem_cons_of_mem _ he)) with e' | e'
      · subst e'
        have := b1 e he
        omega
      · exact e'
/-- Who has the same parts has the same values. -/
theorem cont_ext {ks : List Kind} {s : Nat} {vals vals' : List Int} (h1 : vals.length = fsum ks s 1) (h2 : vals'.length = fsum ks s 1) (h : ∀ r, r ∈ partsL ks s 1 vals ↔ r ∈ partsL ks s 1 vals') : vals = vals' := by
  have e : partsL ks s 1 vals = partsL ks s 1 vals' := rise_ext (fun r => (r.1 : Int)) _ _ ((partsL_pair ks s 1 vals).imp (fun {x y} hxy => by omega)) ((partsL_pair ks s 1 vals').imp (fun {x y} hxy => by omega)) h
  rw [← partsL_flat ks s 1 vals h1, e, partsL_flat ks s 1 vals' h2]
theorem livers_rise {gs fr : List Nat} {C : Co} {E : List (Int × Int)} (hl : Lv gs fr C) (h : Livers (fC C) E) : E.Pairwise (fun x y => x.1 < y.1) := by
  obtain ⟨h1, h2, h3, h4⟩ := h
  refine (List.Pairwise.and h1 h2).imp_of_mem (fun {x y} hx hy hxy => ?_)
  by_cases c : x.1 = y.1
  · exfalso
    refine hxy.2 (Prod.ext c ?_)
    have k1 := (h3 x (h4 x hx)).2 hx
    have k2 := (h3 y (h4 y hy)).2 hy
    rw [fC_is, ← hl] at k1 k2
    obtain ⟨i, i1, -, -, i4⟩ := lives_at k1
    obtain ⟨j, j1, -, -, j4⟩ := lives_at k2
    have : i = j := by rw [i1, j1] at c; omega
    subst this
    exact i4.trans j4.symm
  · have := hxy.1
    omega
theorem livers_eq {gs fr : List Nat} {C : Co} {E E' : List (Int × Int)} (hl : Lv gs fr C) (h : Livers (fC C) E) (h' : Livers (fC C) E') : E = E' := by
  refine rise_ext (fun e => e.1) _ _ (livers_rise hl h) (livers_rise hl h') (fun e => ?_)
  constructor
  · intro he
    exact (h'.2.2.1 e (h.2.2.2 e he)).1 ((h.2.2.1 e (h.2.2.2 e he)).2 he)
  · intro he
    exact (h.2.2.1 e (h'.2.2.2 e he)).1 ((h'.2.2.1 e (h'.2.2.2 e he)).2 he)
section
variable {w w' : World} {own own2 : Nat → Nat} {gw gw2 N N2 : Nat} {ks : List Kind} {gs fr : List Nat} {C : Co}
theorem Wn.lv (h : Wn w own gw N ks gs fr C) : Lv gs fr C := by
  obtain ⟨vk, gp, gm, gt, q, T, h1, h2, h3, h4, h5, h6⟩ := h
  exact h5
/-- Rows, by who lives with what. -/
def Rc (B : Nat) (W : World) (ks : List Kind) (C : Co) (v : Value) (R : List Rt) : Prop :=
  W.ownsRow B 87 3 v R.length (rz R) ∧ Livers (fC C) (R.map entR) ∧ ∀ r ∈ R, ∃ s vals L, C (entR r) = some (s, vals) ∧ W.ownsRow B 32 2 (rtV r) L.length (pz L) ∧ Pv B W L (partsL ks s 1 vals)
theorem Rc.later {B : Nat} {v : Value} {R : List Rt} (h : Rc B w ks C v R) (hb : Below w.heap.size w w') : Rc B w' ks C v R := by
  refine ⟨own_later h.1 hb, h.2.1, fun r hr => ?_⟩
  obtain ⟨s, vals, L, e1, e2, e3⟩ := h.2.2 r hr
  exact ⟨s, vals, L, e1, own_later e2 hb, e3.later hb⟩
theorem Wn.rows (h : Wn w own gw N ks gs fr C) : Calls Tryz.prog 29 #[.pointer (some ⟨gw, 0, none⟩)] w fun e w' => ∃ v, e = .returned v ∧ (∃ R, Rc w.heap.size w' ks C v R) ∧ Below w.heap.size w w' := by
  have ho := h.ok
  obtain ⟨vk, gp, gm, gt, q, T, h1, h2, h3, h4, h5, h6⟩ := h
  refine (rows_any h1 h2 h4.2.1 (fun E e1 e2 => lives_cnt h5 ho.2.2.1 E e1 e2)).mono ?_
  rintro e w' ⟨v, rfl, ⟨R, r1, r2, r3, r4, r5, r6⟩, hb⟩
  refine ⟨v, rfl, ⟨R, r1, ⟨List.pairwise_map.2 (r2.imp (fun h => h)), r3, r4, fun e he => ?_⟩, fun r hr => ?_⟩, hb⟩
  · obtain ⟨r, hr, rfl⟩ := List.mem_map.1 he
    exact r6 r hr
  · obtain ⟨s, j, L, e1, ⟨hj, e2⟩, e3, e4, -, -⟩ := r5 r hr
    cases hC : C (entR r) with
    | none => simp [fC, hC] at e1
    | some p =>
      obtain ⟨s', vals⟩ := p
      have : s' = s := by simpa [fC, hC] using e1
      subst this
      obtain ⟨j', hj', k1, k2⟩ := h3 _ s' vals hC
      obtain ⟨_, ⟨g, hq⟩, _⟩ := h2.1 _ s' (fC_some hC)
      have hn := (h2.2 s' g hq).2.2.1
      have : j = j' := nodup_at hn hj hj' (e2.trans k1.symm)
      subst this
      rw [k2] at e4
      exact ⟨s', vals, L, rfl, e3, e4⟩
/-- Rows of two worlds of the same contents read alike. -/
theorem rc_same {B B' : Nat} {v v' : Value} {R R' : List Rt} (hl : Lv gs fr C) (h : Rc B w ks C v R) (h' : Rc B' w ks C v' R') : R.length = R'.length ∧ ∀ i (h : i < R.length) (h' : i < R'.length), SameRow w R[i] R'[i] := by
  have e := livers_eq hl h.2.1 h'.2.1
  have hlen : R.length = R'.length := by
    have := congrArg List.length e
    simpa using this
  refine ⟨hlen, fun i i1 i2 => ?_⟩
  have hent : entR R[i] = entR R'[i] := by
    have := List.getElem_of_eq e (i := i) (by simpa using i1)
    simpa using this
  obtain ⟨s, vals, L, e1, e2, e3⟩ := h.2.2 _ (List.getElem_mem i1)
  obtain ⟨s', vals', L', k1, k2, k3⟩ := h'.2.2 _ (List.getElem_mem i2)
  rw [hent, k1] at e1
  simp only [Option.some.injEq, Prod.mk.injEq] at e1
  obtain ⟨rfl, rfl⟩ := e1
  refine ⟨hent, L, L', Rp.own e2, Rp.own k2, by rw [e3.1, k3.1], fun j j1 j2 => ?_⟩
  have j3 : j < (partsL ks s' 1 vals').length := by rw [← e3.1]; exact j1
  obtain ⟨x1, x2⟩ := e3.2 j j1 j3
  obtain ⟨y1, y2⟩ := k3.2 j j2 j3
  exact ⟨x1.trans y1.symm, (partsL ks s' 1 vals')[j].2, Iz.own x2, Iz.own y2⟩
/-- How many there are of each set, by who lives with what. -/
def Cs (C : Co) (f : Nat → Option Nat) : Prop := ∀ s, (∀ n, f s = some n ↔ 0 < n ∧ ∃ E : List (Int × Int), E.Nodup ∧ E.length = n ∧ ∀ e, e ∈ E ↔ fC C e = some s)
theorem Cs.eq {f f' : Nat → Option Nat} (h : Cs C f) (h' : Cs C f') : f = f' := by
  funext s
  refine Option.ext (fun n => ?_)
  rw [h s n, h' s n]
theorem Wn.shapes (h : Wn w own gw N ks gs fr C) : Calls Tryz.prog 30 #[.pointer (some ⟨gw, 0, none⟩)] w fun e w' => ∃ f n, e = .returned (.map (some w.heap.size)) ∧ n ≤ 8192 ∧ Mi w' w.heap.size n f ∧ Cs C f ∧ Below w.heap.size w w' := by
  obtain ⟨vk, gp, gm, gt, q, T, h1, h2, h3, h4, h5, h6⟩ := h
  refine (shapes_any h1 h2).mono ?_
  rintro e w' ⟨rfl, ⟨n, hn, hm⟩, hb⟩
  refine ⟨_, n, rfl, hn, hm, fun s m => ?_, hb⟩
  cases hq : q s with
  | none =>
    dsimp only
    rw [hq]
    simp only [Option.map_none, reduceCtorEq, false_iff]
    rintro ⟨hm0, E, -, rfl, hE⟩
    obtain ⟨e, he⟩ := List.exists_mem_of_length_pos hm0
    obtain ⟨-, ⟨g, hg⟩, -⟩ := h2.1 e s ((hE e).1 he)
    rw [hq] at hg
    cases hg
  | some g =>
    obtain ⟨-, -, k3, k4, k5, -⟩ := h2.2 s g hq
    dsimp only
    rw [hq]
    simp only [Option.map_some, Option.some.injEq]
    constructor
    · rintro rfl
      exact ⟨List.length_pos_iff.2 k5, (T s).1, k3, rfl, fun e => ⟨k4 e, fun he => (h2.1 e s he).2.2⟩⟩
    · rintro ⟨-, E, e1, rfl, hE⟩
      exact ((List.perm_ext_iff_of_nodup k3 e1).2 (fun e => by rw [hE e]; exact ⟨k4 e, fun he => (h2.1 e s he).2.2⟩)).length_eq
/-- Snapshots, by who lives with what: the same bytes. -/
theorem Wn.snap (h : Wn w own gw N ks gs fr C) (E : List (Int × Int)) (hE : Livers (fC C) E) : Calls Tryz.prog 13 #[.pointer (some ⟨gw, 0, none⟩)] w fun e w' => ∃ v, e = .returned v ∧ (∃ l, l = Pak.Rw.rowB (zi gs) ++ Pak.Rw.rowB (zi fr) ++ E.flatMap (fun e => oneB ks (C e)) ∧ w'.ownsRow w.heap.size 5 1 v l.length (Lib.byteCells l)) ∧ Below w.heap.size w w' := by
  refine h.snapshot.mono ?_
  rintro e w' ⟨v, rfl, ⟨E', hE', l, hl, ho⟩, hb⟩
  obtain rfl := livers_eq h.lv hE' hE
  exact ⟨v, rfl, ⟨l, hl, ho⟩, hb⟩
end
end Go.Proofs.YtafmiolehlagkaaGreat
