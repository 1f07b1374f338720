import Derived.Test.YtfbhoemfabgjpaaGreatMgAH
import Derived.Test.YtfbhoemfabgjpaaGreatMgAJ
import Derived.Test.YtfbhoemfabgjpaaGreatMgAV
/-
  World: why an entity has no part of a kind.
-/
namespace Go.Proofs.YtfbhoemfabgjpaaGreat
open Go.RowKit
set_option maxRecDepth 100000
/-- Why there is no part of a kind. -/
def hasE (ks : List Kind) (lv : Bool) (s : Nat) (x : Int) : Int := if lv then (if 1 ≤ x ∧ x ≤ (ks.length : Int) then (if s.testBit x.toNat then 0 else 62) else 60) else 41
section
variable {w w' : World} {own : Nat → Nat} {gw gp gm gt M M' : Nat} {vk : Value} {ks : List Kind} {gs fr gs' fr' : List Nat} {f f' : Int × Int → Option Nat} {q q' : Nat → Option Nat} {T T' : Nat → Ts}
set_option maxHeartbeats 4000000 in
theorem haspart_any (h : Wx 0 w own gw vk gp gm gt M ks gs fr f q T) (a b x : Int) (hib : InB (a, b)) (hks : ks.length ≤ 12) (s : Nat) (hs : s < 8192) (hf : livesOf gs fr a b = true → f (a, b) = some s) :
    Calls Tryz.prog 70 #[.pointer (some ⟨gw, 0, none⟩), .agg #[.int .i64 a, .int .i64 b], .int .i64 x] w fun e w' => e = .returned (.int .i64 (hasE ks (livesOf gs fr a b) s x)) ∧ Below w.heap.size w w' := by
  obtain ⟨w1, hw1⟩ : ∃ X, X = w.alloc (.cells #[.int .i64 a, .int .i64 b] 34) := ⟨_, rfl⟩
  have B1 : Below w.heap.size w w1 := hw1 ▸ below_alloc w _
  have hx1 : w1.heap[w.heap.size]? = some (.cells #[.int .i64 a, .int .i64 b] 34 (0, 0)) := hw1 ▸ heap_alloc_new w _
  have H1 := hide (h.later B1)
  have HB1 := hide B1
  have JL : Hid (Calls Tryz.prog 13 #[.pointer (some ⟨gw, 0, none⟩), .agg #[.int .i64 a, .int .i64 b]] w1 fun e w' => e = .returned (.bool (livesOf gs fr a b)) ∧ Below w1.heap.size w1 w') := wlives_any H1.out a b
  have JK : Hid (∀ W, Below w1.heap.size w1 W → Calls Tryz.prog 87 #[.pointer (some ⟨gw, 0, none⟩), .int .i64 x] W fun e w' => e = .returned (.bool (decide (1 ≤ x ∧ x ≤ (ks.length : Int)))) ∧ w' = W) := fun W hW => by
    have hx := H1.out.later hW
    exact iskind_any hx.2.2.1 hx.2.2.2.1.kr x
  have HLK : Hid (livesOf gs fr a b = true → ∀ W, Below w1.heap.size w1 W → (Instr.lookup 61 (.map (some gm)) (.agg #[.int .i64 a, .int .i64 b]) false).run Tryz.prog W = .ok (.int .i64 (s : Int)) W ∧ W.cell? ⟨gw, 2, none⟩ = some (.map (some gm)) ∧ W.cell? ⟨w.heap.size, 0, none⟩ = some (.int .i64 a) ∧ W.cell? ⟨w.heap.size, 1, none⟩ = some (.int .i64 b)) := fun hl W hW => by
    have hx := H1.out.later hW
    exact ⟨hx.mp.look1 a b hib (hf hl), hx.cells.2.2.1, kx_cells hx1 hW⟩
  obtain ⟨p0, p1⟩ := kx_cells hx1 (Below.refl _ w1)
  clear h hf H1
  go_enter Tryz.func70, Tryz.ntmps70
  go_upto_region 1 with fail
  rw [← hw1]
  obtain ⟨kx, hkx⟩ : ∃ k, k = w.heap.size := ⟨_, rfl⟩
  rw [← hkx] at p0 p1 HLK ⊢
  clear hx1 hw1 hkx B1
  cases hlv : livesOf gs fr a b with
  | false =>
    rw [hlv] at JL
    have EC : Hid (hasE ks (livesOf gs fr a b) s x = 41) := by
      unfold Hid
      rw [hlv]
      rfl
    clear HLK JK hlv
    go_wp2_with fail
    refine JL.out.mono ?_
    rintro e w2 ⟨rfl, hb2⟩
    have HB2 := hide hb2
    clear hb2
    go_wp2_with fail
    go_ret
    exact ⟨ret_int EC.out.symm, below_on HB1.out HB2.out⟩
  | true =>
    have HL2 := hide (HLK.out hlv)
    have HLV := hide hlv
    rw [hlv] at JL
    clear HLK hlv
    by_cases hk : 1 ≤ x ∧ x ≤ (ks.length : Int)
    · obtain ⟨k, rfl⟩ : ∃ k : Nat, x = (k : Int) := ⟨x.toNat, by omega⟩
      have EC : Hid (hasE ks (livesOf gs fr a b) s (k : Int) = if s.testBit k then 0 else 62) := by
        unfold hasE Hid
        rw [if_pos HLV.out, if_pos hk, Int.toNat_natCast]
      rw [decide_eq_true hk] at JK
      have JH : Hid (∀ W, Calls Tryz.prog 78 #[.int .i64 (s : Int), .int .i64 (k : Int)] W fun e w' => e = .returned (.bool (s.testBit k)) ∧ w' = W) := fun W => has_any s k W hs (by omega)
      generalize s.testBit k = bt at *
      clear hk
      go_wp2_with fail
      refine JL.out.mono ?_
      rintro e w2 ⟨rfl, hb2⟩
      have HB2 := hide hb2
      clear hb2 JL
      go_wp2_with fail
      refine (JK.out w2 HB2.out).mono ?_
      rintro e w2' ⟨rfl, rfl⟩
      obtain ⟨w2, rfl⟩ : ∃ X, X = w2' := ⟨_, rfl⟩
      clear JK p0 p1
      obtain ⟨hlk, c2, p0, p1⟩ := HL2.out w2.drew (below_on HB2.out (below_drew w2))
      have HB3 := hide (below_on HB2.out (below_drew w2))
      clear HL2
      go_upto_region 5 with fail
      refine wp_region_noPanic ?_
      refine wp_region_late (J := fun i => i != 99) (S := fun W => W.cell? ⟨gw, 2, none⟩ = some (.map (some gm)) ∧ W.cell? ⟨kx, 0, none⟩ = some (.int .i64 a) ∧ W.cell? ⟨kx, 1, none⟩ = some (.int .i64 b)) (by kernel_rfl) ⟨c2, p0, p1⟩ (fun hHeld => ?_)
      refine' wpAnyJ_takeW (i := 0) (oi := { dst := some 15, op := Op.move (Operand.tmp 0), type := 26, pos := "world.go:175", after := #[], guard := none }) (v := _) rfl (by kernel_rfl) (by kernel_rfl) (by kernel_rfl) (fun _ _ _ h => h) (Or.inl ⟨by rfl, ?hyA1⟩) ?reA1
      case hyA1 => (intro W hSw; (try dsimp only at hSw); go_simp; try with_reducible rfl)
      try simp only [Act.put, List.setIfInBounds_toArray, List.set_cons_zero, List.set_cons_succ]
      refine' wpAnyJ_takeW (i := 1) (oi := { dst := some 16, op := Op.nilCheck (Operand.tmp 15), type := 0, pos := "world.go:175", after := #[{ on := 0, ground := Ground.data }], guard := none }) (v := _) rfl (by kernel_rfl) (by kernel_rfl) (by kernel_rfl) (fun _ _ _ h => h) (Or.inl ⟨by rfl, ?hyA2⟩) ?reA2
      case hyA2 => (intro W hSw; (try dsimp only at hSw); go_simp; try with_reducible rfl)
      try simp only [Act.put, List.setIfInBounds_toArray, List.set_cons_zero, List.set_cons_succ]
      refine' wpAnyJ_takeW (i := 2) (oi := { dst := some 17, op := Op.fieldAddr 64 (Operand.tmp 16) 2, type := 0, pos := "world.go:175", after := #[{ on := 1, ground := Ground.data }], guard := none }) (v := _) rfl (by kernel_rfl) (by kernel_rfl) (by kernel_rfl) (fun _ _ _ h => h) (Or.inl ⟨by rfl, ?hyA3⟩) ?reA3
      case hyA3 => (intro W hSw; (try dsimp only at hSw); go_simp; try with_reducible rfl)
      try simp only [Act.put, List.setIfInBounds_toArray, List.set_cons_zero, List.set_cons_succ]
      refine' wpAnyJ_take (i := 3) (oi := { dst := some 18, op := Op.load 61 (Operand.tmp 17), type := 61, pos := "world.go:175", after := #[{ on := 2, ground := Ground.data }], guard := none }) (v := _) rfl (by kernel_rfl) (by kernel_rfl) (by kernel_rfl) (by kernel_rfl) (fun _ _ _ h => h) (Or.inl ⟨by rfl, ?hyA4⟩) (by assumption) ?reA4
      case hyA4 => (intro W hSw; (try dsimp only at hSw); go_simp; try with_reducible rfl)
      try simp only [Act.put, List.setIfInBounds_toArray, List.set_cons_zero, List.set_cons_succ]
      refine' wpAnyJ_take (i := 4) (oi := { dst := some 19, op := Op.load 34 (Operand.tmp 4), type := 34, pos := "world.go:175", after := #[], guard := none }) (v := _) rfl (by kernel_rfl) (by kernel_rfl) (by kernel_rfl) (by kernel_rfl) (fun _ _ _ h => h) (Or.inl ⟨by rfl, ?hyA5⟩) (by assumption) ?reA5
      case hyA5 => (intro W hSw; (try dsimp only at hSw); go_simp; try with_reducible rfl)
      try simp only [Act.put, List.setIfInBounds_toArray, List.set_cons_zero, List.set_cons_succ]
      refine' wpAnyJ_takeW (i := 6) (oi := { dst := some 21, op := Op.move (Operand.tmp 2), type := 3, pos := "world.go:175", after := #[], guard := none }) (v := _) rfl (by kernel_rfl) (by kernel_rfl) (by kernel_rfl) (fun _ _ _ h => h) (Or.inl ⟨by rfl, ?hyA6⟩) ?reA6
      case hyA6 => (intro W hSw; (try dsimp only at hSw); go_simp; try with_reducible rfl)
      try simp only [Act.put, List.setIfInBounds_toArray, List.set_cons_zero, List.set_cons_succ]
      refine wpAnyJ_ready (rs := [5]) (by kernel_rfl) (by simp) ?_
      refine AllReadyJ.cons (o := { dst := some 20, op := Op.lookup 61 (Operand.tmp 18) (Operand.tmp 19) false, type := 3, pos := "world.go:175", after := #[{ on := 3, ground := Ground.data }, { on := 4, ground := Ground.data }], guard := none }) rfl (fun K hK => ?_) AllReadyJ.nil
      go_simp
      refine hK.out _ _ (fun _ _ => ⟨c2, p0, p1⟩) ?_
      clear hK K
      try simp only [Act.put, List.setIfInBounds_toArray, List.set_cons_zero, List.set_cons_succ]
      refine wpAnyJ_ready (rs := [7]) (by kernel_rfl) (by simp) ?_
      refine AllReadyJ.cons (o := { dst := some 22, op := Op.call { callee := Callee.value (Operand.func 78), args := #[Operand.tmp 20, Operand.tmp 21], argTypes := #[3, 3] }, type := 4, pos := "world.go:175", after := #[{ on := 5, ground := Ground.data }, { on := 6, ground := Ground.data }], guard := none }) rfl (fun K hK => ?_) AllReadyJ.nil
      go_simp
      go_at_call 78
      refine (JH.out _).mono ?_
      rintro e w3 ⟨rfl, rfl⟩
      go_simp
      refine hK.out _ _ (fun _ _ => ⟨c2, p0, p1⟩) ?_
      clear hK K
      try simp only [Act.put, List.setIfInBounds_toArray, List.set_cons_zero, List.set_cons_succ]
      refine' wpAnyJ_takeW (i := 8) (oi := { dst := some 23, op := Op.unOp UnOp.not 4 (Operand.tmp 22), type := 4, pos := "world.go:175", after := #[{ on := 7, ground := Ground.data }], guard := none }) (v := _) rfl (by kernel_rfl) (by kernel_rfl) (by kernel_rfl) (fun _ _ _ h => h) (Or.inl ⟨by rfl, ?hyA7⟩) ?reA7
      case hyA7 => (intro W hSw; (try dsimp only at hSw); go_simp; try with_reducible rfl)
      try simp only [Act.put, List.setIfInBounds_toArray, List.set_cons_zero, List.set_cons_succ]
      refine wpAnyJ_done (by kernel_rfl) ?_ _
      refine NoPanic.normal ?_
      cases bt with
      | true =>
        have EC2 : Hid (hasE ks (livesOf gs fr a b) s (k : Int) = 0) := EC.out.trans rfl
        clear EC hlk
        go_wp2_with fail
        go_ret
        exact ⟨ret_int EC2.out.symm, below_on HB1.out HB3.out⟩
      | false =>
        have EC2 : Hid (hasE ks (livesOf gs fr a b) s (k : Int) = 62) := EC.out.trans rfl
        clear EC hlk
        go_wp2_with fail
        go_ret
        exact ⟨ret_int EC2.out.symm, below_on HB1.out HB3.out⟩
    · rw [decide_eq_false hk] at JK
      have EC : Hid (hasE ks (livesOf gs fr a b) s x = 60) := by
        unfold hasE Hid
        rw [if_pos HLV.out, if_neg hk]
      clear hk HL2
      go_wp2_with fail
      refine JL.out.mono ?_
      rintro e w2 ⟨rfl, hb2⟩
      have HB2 := hide hb2
      clear hb2 JL
      go_wp2_with fail
      refine (JK.out w2 HB2.out).mono ?_
      rintro e w2' ⟨rfl, rfl⟩
      clear JK
      go_wp2_with fail
      go_ret
      exact ⟨ret_int EC.out.symm, below_on HB1.out HB2.out⟩
end
end Go.Proofs.YtfbhoemfabgjpaaGreat

/-
  World: what Get, Set, Remove, Add answer where something is wrong.
-/
namespace Go.Proofs.YtfbhoemfabgjpaaGreat
open Go.RowKit
set_option maxRecDepth 100000
section
variable {w w' : World} {own : Nat → Nat} {gw gp gm gt M M' : Nat} {vk : Value} {ks : List Kind} {gs fr gs' fr' : List Nat} {f f' : Int × Int → Option Nat} {q q' : Nat → Option Nat} {T T' : Nat → Ts}
set_option maxHeartbeats 2000000 in
theorem remove_err (h : Wx 0 w own gw vk gp gm gt M ks gs fr f q T) (a b x : Int) (hib : InB (a, b)) (hks : ks.length ≤ 12) (s : Nat) (hs : s < 8192) (hf : livesOf gs fr a b = true → f (a, b) = some s) (z : Int) (hz : hasE ks (livesOf gs fr a b) s x = z) (hz0 : z ≠ 0) : Calls Tryz.prog 42 #[.pointer (some ⟨gw, 0, none⟩), .agg #[.int .i64 a, .int .i64 b], .int .i64 x] w fun e w' => e = .returned (.int .i64 z) ∧ Below w.heap.size w w' := by
  have JH : Hid (∀ W, Below w.heap.size w W → Calls Tryz.prog 70 #[.pointer (some ⟨gw, 0, none⟩), .agg #[.int .i64 a, .int .i64 b], .int .i64 x] W fun e w' => e = .returned (.int .i64 z) ∧ Below W.heap.size W w') := fun W hW => by
    have := haspart_any (h.later hW) a b x hib hks s hs hf
    rw [hz] at this
    exact this
  have hz1 : (z != 0) = true := by rw [bne_iff_ne]; exact hz0
  have hz2 : (z == 0) = false := by rw [beq_eq_false_iff_ne]; exact hz0
  clear h hz hf
  have B2 : Hid (Below w.heap.size w ((w.alloc (.cells #[.int .i64 a, .int .i64 b] 34)).alloc (.cells #[.int .i64 x] 3))) := below_on (below_alloc w _) (below_alloc _ _)
  have J1 := hide (JH.out _ B2.out)
  go_enter Tryz.func42, Tryz.ntmps42
  go_wp2_with fail
  refine J1.out.mono ?_
  rintro e w3 ⟨rfl, hb3⟩
  have HB3 := hide (below_on B2.out hb3)
  clear hb3 J1 JH
  go_wp2_with fail
  go_ret
  exact ⟨rfl, HB3.out⟩
set_option maxHeartbeats 2000000 in
theorem add_stale (h : Wx 0 w own gw vk gp gm gt M ks gs fr f q T) (a b x : Int) (av : Option Addr) (nv cv : Nat) (hl : livesOf gs fr a b = false) : Calls Tryz.prog 41 #[.pointer (some ⟨gw, 0, none⟩), .agg #[.int .i64 a, .int .i64 b], .agg #[.int .i64 x, .slice av nv cv]] w fun e w' => e = .returned (.int .i64 41) ∧ Below w.heap.size w w' := by
  have B2 : Hid (Below w.heap.size w ((w.alloc (.cells #[.int .i64 a, .int .i64 b] 34)).alloc (.cells #[.int .i64 x, .slice av nv cv] 51))) := below_on (below_alloc w _) (below_alloc _ _)
  have J1 := hide (wlives_any (h.later B2.out) a b)
  rw [hl] at J1
  clear h hl
  go_enter Tryz.func41, Tryz.ntmps41
  go_wp2_with fail
  refine J1.out.mono ?_
  rintro e w3 ⟨rfl, hb3⟩
  have HB3 := hide (below_on B2.out hb3)
  clear hb3 J1
  go_wp2_with fail
  go_ret
  exact ⟨rfl, HB3.out⟩
set_option maxHeartbeats 2000000 in
theorem add_err (h : Wx 0 w own gw vk gp gm gt M ks gs fr f q T) (a b x : Int) (hib : InB (a, b)) (hks : ks.length ≤ 12) (s : Nat) (hs : s < 8192) (hf : f (a, b) = some s) (av : Option Addr) (nv cv : Nat) (hl : livesOf gs fr a b = true) (z : Int) (hz : comeS ks s x nv = z) (hz0 : z ≠ 0) : Calls Tryz.prog 41 #[.pointer (some ⟨gw, 0, none⟩), .agg #[.int .i64 a, .int .i64 b], .agg #[.int .i64 x, .slice av nv cv]] w fun e w' => e = .returned (.int .i64 z) ∧ Below w.heap.size w w' := by
  obtain ⟨w2, hw2⟩ : ∃ X, X = (w.alloc (.cells #[.int .i64 a, .int .i64 b] 34)).alloc (.cells #[.int .i64 x, .slice av nv cv] 51) := ⟨_, rfl⟩
  have B2 : Hid (Below w.heap.size w w2) := hw2 ▸ below_on (below_alloc w _) (below_alloc _ _)
  have H2 := hide (h.later B2.out)
  have J1 := hide (wlives_any H2.out a b)
  rw [hl] at J1
  have hx1 : w2.heap[w.heap.size]? = some (.cells #[.int .i64 a, .int .i64 b] 34 (0, 0)) := by
    rw [hw2]
    exact ((below_alloc _ _).block w.heap.size (by simp)).trans (heap_alloc_new w _)
  have hx2 : w2.heap[w.heap.size + 1]? = some (.cells #[.int .i64 x, .slice av nv cv] 51 (0, 0)) := by
    have := heap_alloc_new (w.alloc (.cells #[.int .i64 a, .int .i64 b] 34)) (.cells #[.int .i64 x, .slice av nv cv] 51)
    rw [hw2]
    simpa using this
  have HW : Hid (∀ W, Below w2.heap.size w2 W → (Instr.lookup 61 (.map (some gm)) (.agg #[.int .i64 a, .int .i64 b]) false).run Tryz.prog W = .ok (.int .i64 (s : Int)) W ∧ W.cell? ⟨gw, 2, none⟩ = some (.map (some gm)) ∧ W.cell? ⟨w.heap.size, 0, none⟩ = some (.int .i64 a) ∧ W.cell? ⟨w.heap.size, 1, none⟩ = some (.int .i64 b) ∧ W.cell? ⟨w.heap.size + 1, 0, none⟩ = some (.int .i64 x) ∧ W.cell? ⟨w.heap.size + 1, 1, none⟩ = some (.slice av nv cv)) := fun W hW => by
    have hx := H2.out.later hW
    have h5 := (hW.block _ (lt_of_block hx2)).trans hx2
    refine ⟨hx.mp.look1 a b hib hf, hx.cells.2.2.1, (kx_cells hx1 hW).1, (kx_cells hx1 hW).2, ?_, ?_⟩ <;> rw [cell_of_row W _ _ _ 51 (0, 0) h5] <;> rfl
  have JM : Hid (∀ W, Below w2.heap.size w2 W → Calls Tryz.prog 65 #[.pointer (some ⟨gw, 0, none⟩), .int .i64 (s : Int), .agg #[.int .i64 x, .slice av nv cv]] W fun e w' => e = .returned (.int .i64 z) ∧ Below W.heap.size W w') := fun W hW => by
    have hx := H2.out.later hW
    have := maycome_any hx.2.2.1 hx.2.2.2.1.kr hks s hs x av nv cv
    rw [hz] at this
    exact this
  have hz1 : (z != 0) = true := by rw [bne_iff_ne]; exact hz0
  have hz2 : (z == 0) = false := by rw [beq_eq_false_iff_ne]; exact hz0
  clear h hz hf hl hx1 hx2 H2
  go_enter Tryz.func41, Tryz.ntmps41
  go_wp2_with fail
  rw [← hw2]
  obtain ⟨kx, hkx⟩ : ∃ k, k = w.heap.size := ⟨_, rfl⟩
  obtain ⟨kp, hkp⟩ : ∃ k, k = w.heap.size + 1 := ⟨_, rfl⟩
  rw [← hkp, ← hkx] at HW ⊢
  clear hkx hkp hw2
  refine J1.out.mono ?_
  rintro e w3 ⟨rfl, hb3⟩
  have HB3 := hide hb3
  clear hb3 J1
  have HB4 := hide (below_on HB3.out (below_drew w3))
  obtain ⟨hlk, c2, p0, p1, p2, p3⟩ := HW.out w3.drew HB4.out
  have J2 := hide (JM.out w3.drew HB4.out)
  go_upto_region 3 with fail
  refine wp_region_noPanic ?_
  refine wp_region_late (J := fun i => i != 99) (S := fun W => W.cell? ⟨gw, 2, none⟩ = some (.map (some gm)) ∧ W.cell? ⟨kx, 0, none⟩ = some (.int .i64 a) ∧ W.cell? ⟨kx, 1, none⟩ = some (.int .i64 b) ∧ W.cell? ⟨kp, 0, none⟩ = some (.int .i64 x) ∧ W.cell? ⟨kp, 1, none⟩ = some (.slice av nv cv)) (by kernel_rfl) ⟨c2, p0, p1, p2, p3⟩ (fun hHeld => ?_)
  refine' wpAnyJ_takeW (i := 0) (oi := { dst := some 13, op := Op.move (Operand.tmp 0), type := 26, pos := "world.go:65", after := #[], guard := none }) (v := _) rfl (by kernel_rfl) (by kernel_rfl) (by kernel_rfl) (fun _ _ _ h => h) (Or.inl ⟨by rfl, ?hyA1⟩) ?reA1
  case hyA1 => (intro W hSw; (try dsimp only at hSw); go_simp; try with_reducible rfl)
  try simp only [Act.put, List.setIfInBounds_toArray, List.set_cons_zero, List.set_cons_succ]
  refine' wpAnyJ_takeW (i := 1) (oi := { dst := some 14, op := Op.move (Operand.tmp 0), type := 26, pos := "world.go:65", after := #[], guard := none }) (v := _) rfl (by kernel_rfl) (by kernel_rfl) (by kernel_rfl) (fun _ _ _ h => h) (Or.inl ⟨by rfl, ?hyA2⟩) ?reA2
  case hyA2 => (intro W hSw; (try dsimp only at hSw); go_simp; try with_reducible rfl)
  try simp only [Act.put, List.setIfInBounds_toArray, List.set_cons_zero, List.set_cons_succ]
  refine' wpAnyJ_takeW (i := 2) (oi := { dst := some 15, op := Op.nilCheck (Operand.tmp 14), type := 0, pos := "world.go:65", after := #[{ on := 1, ground := Ground.data }], guard := none }) (v := _) rfl (by kernel_rfl) (by kernel_rfl) (by kernel_rfl) (fun _ _ _ h => h) (Or.inl ⟨by rfl, ?hyA3⟩) ?reA3
  case hyA3 => (intro W hSw; (try dsimp only at hSw); go_simp; try with_reducible rfl)
  try simp only [Act.put, List.setIfInBounds_toArray, List.set_cons_zero, List.set_cons_succ]
  refine' wpAnyJ_takeW (i := 3) (oi := { dst := some 16, op := Op.fieldAddr 64 (Operand.tmp 15) 2, type := 0, pos := "world.go:65", after := #[{ on := 2, ground := Ground.data }], guard := none }) (v := _) rfl (by kernel_rfl) (by kernel_rfl) (by kernel_rfl) (fun _ _ _ h => h) (Or.inl ⟨by rfl, ?hyA4⟩) ?reA4
  case hyA4 => (intro W hSw; (try dsimp only at hSw); go_simp; try with_reducible rfl)
  try simp only [Act.put, List.setIfInBounds_toArray, List.set_cons_zero, List.set_cons_succ]
  refine' wpAnyJ_take (i := 4) (oi := { dst := some 17, op := Op.load 61 (Operand.tmp 16), type := 61, pos := "world.go:65", after := #[{ on := 3, ground := Ground.data }], guard := none }) (v := _) rfl (by kernel_rfl) (by kernel_rfl) (by kernel_rfl) (by kernel_rfl) (fun _ _ _ h => h) (Or.inl ⟨by rfl, ?hyA5⟩) (by assumption) ?reA5
  case hyA5 => (intro W hSw; (try dsimp only at hSw); go_simp; try with_reducible rfl)
  try simp only [Act.put, List.setIfInBounds_toArray, List.set_cons_zero, List.set_cons_succ]
  refine' wpAnyJ_take (i := 5) (oi := { dst := some 18, op := Op.load 34 (Operand.tmp 4), type := 34, pos := "world.go:65", after := #[], guard := none }) (v := _) rfl (by kernel_rfl) (by kernel_rfl) (by kernel_rfl) (by kernel_rfl) (fun _ _ _ h => h) (Or.inl ⟨by rfl, ?hyA6⟩) (by assumption) ?reA6
  case hyA6 => (intro W hSw; (try dsimp only at hSw); go_simp; try with_reducible rfl)
  try simp only [Act.put, List.setIfInBounds_toArray, List.set_cons_zero, List.set_cons_succ]
  refine' wpAnyJ_take (i := 7) (oi := { dst := some 20, op := Op.load 51 (Operand.tmp 5), type := 51, pos := "world.go:65", after := #[], guard := none }) (v := _) rfl (by kernel_rfl) (by kernel_rfl) (by kernel_rfl) (by kernel_rfl) (fun _ _ _ h => h) (Or.inl ⟨by rfl, ?hyA7⟩) (by assumption) ?reA7
  case hyA7 => (intro W hSw; (try dsimp only at hSw); go_simp; try with_reducible rfl)
  try simp only [Act.put, List.setIfInBounds_toArray, List.set_cons_zero, List.set_cons_succ]
  refine wpAnyJ_ready (rs := [6]) (by kernel_rfl) (by simp) ?_
  refine AllReadyJ.cons (o := { dst := some 19, op := Op.lookup 61 (Operand.tmp 17) (Operand.tmp 18) false, type := 3, pos := "world.go:65", after := #[{ on := 4, ground := Ground.data }, { on := 5, ground := Ground.data }], guard := none }) rfl (fun K hK => ?_) AllReadyJ.nil
  go_simp
  refine hK.out _ _ (fun _ _ => ⟨c2, p0, p1, p2, p3⟩) ?_
  clear hK K
  try simp only [Act.put, List.setIfInBounds_toArray, List.set_cons_zero, List.set_cons_succ]
  refine wpAnyJ_ready (rs := [8]) (by kernel_rfl) (by simp) ?_
  refine AllReadyJ.cons (o := { dst := some 21, op := Op.call { callee := Callee.value (Operand.func 65), args := #[Operand.tmp 13, Operand.tmp 19, Operand.tmp 20], argTypes := #[26, 3, 51] }, type := 27, pos := "world.go:65", after := #[{ on := 0, ground := Ground.data }, { on := 6, ground := Ground.data }, { on := 7, ground := Ground.data }], guard := none }) rfl (fun K hK => ?_) AllReadyJ.nil
  go_simp
  go_at_call 65
  refine J2.out.mono ?_
  rintro e w5 ⟨rfl, hb5⟩
  have HB5 := hide (below_on HB4.out hb5)
  obtain ⟨-, y2, y3, y4, y5, y6⟩ := HW.out w5 HB5.out
  go_simp
  refine hK.out _ _ (fun _ _ => ⟨y2, y3, y4, y5, y6⟩) ?_
  clear hK K hb5
  try simp only [Act.put, List.setIfInBounds_toArray, List.set_cons_zero, List.set_cons_succ]
  refine' wpAnyJ_takeW (i := 9) (oi := { dst := some 7, op := Op.assign (Operand.tmp 21), type := 27, pos := "world.go:65", after := #[{ on := 8, ground := Ground.data }, { on := 8, ground := Ground.chain }, { on := 0, ground := Ground.phase }, { on := 1, ground := Ground.phase }, { on := 2, ground := Ground.phase }, { on := 3, ground := Ground.phase }, { on := 4, ground := Ground.phase }, { on := 5, ground := Ground.phase }, { on := 6, ground := Ground.phase }, { on := 7, ground := Ground.phase }, { on := 8, ground := Ground.phase }], guard := none }) (v := _) rfl (by kernel_rfl) (by kernel_rfl) (by kernel_rfl) (fun _ _ _ h => h) (Or.inl ⟨by rfl, ?hyA8⟩) ?reA8
  case hyA8 => (intro W hSw; (try dsimp only at hSw); go_simp; try with_reducible rfl)
  try simp only [Act.put, List.setIfInBounds_toArray, List.set_cons_zero, List.set_cons_succ]
  refine wpAnyJ_done (by kernel_rfl) ?_ _
  refine NoPanic.normal ?_
  clear hlk c2 p0 p1 p2 p3 y2 y3 y4 y5 y6 J2 HW JM
  go_wp2_with fail
  go_ret
  exact ⟨rfl, below_on B2.out HB5.out⟩
end
end Go.Proofs.YtfbhoemfabgjpaaGreat

/-
  World: Add, where all is well.
-/
namespace Go.Proofs.YtfbhoemfabgjpaaGreat
open Go.RowKit
set_option maxRecDepth 100000
theorem own_kinds {w : World} {B B' e e' s s' n n' k : Nat} {v v' : Value} {xs xs' : List Value} (h : w.ownsRow B e s v n xs) (h' : w.ownsRow B' e' s' v' n' xs') (hne : e ≠ e') (hk : v.ownBlock = some k) : v'.ownBlock ≠ some k := fun hk' => by
  rcases h.2 with ⟨rfl, -⟩ | ⟨g, c, cur, rfl, -, hg, -⟩
  · simp [Value.ownBlock] at hk
  · rcases h'.2 with ⟨rfl, -⟩ | ⟨g', c', cur', rfl, -, hg', -⟩
    · simp [Value.ownBlock] at hk'
    · simp only [Value.ownBlock, Option.some.injEq] at hk hk'
      subst hk
      subst hk'
      rw [hg] at hg'
      simp only [Option.some.injEq, Obj.cells.injEq] at hg'
      exact hne hg'.2.1
theorem pz_snoc (L : List Pt) (p : Pt) : pz (L ++ [p]) = pz L ++ [.int .i64 p.1, .slice p.2.1 p.2.2.1 p.2.2.2] := pz_append L [p]
section
variable {w w' : World} {own : Nat → Nat} {gw gp gm gt M M' : Nat} {vk : Value} {ks : List Kind} {gs fr gs' fr' : List Nat} {f f' : Int × Int → Option Nat} {q q' : Nat → Option Nat} {T T' : Nat → Ts}
/-- Parts in memory of their own, and one that was handed in. -/
def Ap1 (w W : World) (ks : List Kind) (s : Nat) (row : List Int) (p : Pt) (v : Value) (L : List Pt) : Prop :=
  W.ownsRow w.heap.size 51 2 v (L ++ [p]).length (pz (L ++ [p])) ∧ Pv w.heap.size W L (partsL ks s 1 row) ∧ Below w.heap.size w W
theorem Ap1.pg {W : World} {s : Nat} {row : List Int} {p : Pt} {v : Value} {L : List Pt} (h : Ap1 w W ks s row p v L) (hr : row.length = fsum ks s 1) (hc : comeS ks s p.1 p.2.2.1 = 0) : Pg ks (L ++ [p]) ∧ L.map (fun p => p.1.toNat) = (partsL ks s 1 row).map (·.1) := by
  obtain ⟨-, ⟨h1, h2⟩, -⟩ := h
  obtain ⟨c1, c2, c3, c4⟩ := comeS_zero hc
  have hm : L.map (fun p => p.1.toNat) = (partsL ks s 1 row).map (·.1) := by
    refine List.ext_getElem (by simp [h1]) (fun i i1 i2 => ?_)
    simp only [List.length_map] at i1 i2
    rw [List.getElem_map, List.getElem_map, (h2 i i1 i2).1]
    simp
  have hLn : ∀ x ∈ L, ∃ r ∈ partsL ks s 1 row, x.1 = (r.1 : Int) ∧ x.2.2.1 = r.2.length := fun x hx => by
    obtain ⟨i, hi, rfl⟩ := List.getElem_of_mem hx
    obtain ⟨k1, k2⟩ := h2 i hi (by omega)
    refine ⟨_, List.getElem_mem (by omega : i < (partsL ks s 1 row).length), k1, ?_⟩
    obtain ⟨ao, c, e⟩ := own_len k2
    simp only [ptV, Value.slice.injEq] at e
    exact e.2.1
  refine ⟨⟨fun x hx => ?_, ?_⟩, hm⟩
  · rcases List.mem_append.1 hx with hx | hx
    · obtain ⟨r, hr', e1, e2⟩ := hLn x hx
      have m1 := partsL_mem ks s 1 row r hr'
      have m2 := partsL_len ks s 1 row hr r hr'
      refine ⟨by omega, by omega, ?_⟩
      rw [e2, m2, e1]
      simp
    · rw [List.mem_singleton.1 hx]
      exact ⟨c1, c2, c4⟩
  · rw [List.map_append, List.nodup_append]
    refine ⟨?_, by simp, fun x hx y hy e => ?_⟩
    · have : L.map (fun p => p.1.toNat - 1) = (partsL ks s 1 row).map (fun r => r.1 - 1) := by
        have := congrArg (List.map (fun n => n - 1)) hm
        simpa [List.map_map, Function.comp_def] using this
      rw [this]
      refine List.pairwise_map.2 (List.Pairwise.imp_of_mem (fun {x y} hx hy hlt => ?_) (partsL_pair ks s 1 row))
      have a1 := partsL_mem ks s 1 row x hx
      have a2 := partsL_mem ks s 1 row y hy
      omega
    · obtain ⟨z, hz, rfl⟩ := List.mem_map.1 hx
      obtain ⟨r, hr', e1, e2⟩ := hLn z hz
      have m1 := partsL_mem ks s 1 row r hr'
      simp only [List.map_cons, List.map_nil, List.mem_singleton] at hy
      have : r.1 = p.1.toNat := by omega
      rw [this] at m1
      rw [m1.2.2] at c3
      cases c3
theorem set_all {s : Nat} {row : List Int} {L : List Pt} (hsb : Sb ks s) (hm : L.map (fun p => p.1.toNat) = (partsL ks s 1 row).map (·.1)) : setOf L = s := by
  refine Nat.eq_of_testBit_eq (fun k => ?_)
  rw [setOf_bit]
  have h1 : (L.any fun p => p.1.toNat == k) = true ↔ k ∈ L.map (fun p => p.1.toNat) := by
    rw [List.any_eq_true, List.mem_map]
    exact ⟨fun ⟨p, hp, e⟩ => ⟨p, hp, beq_iff_eq.1 e⟩, fun ⟨p, hp, e⟩ => ⟨p, hp, beq_iff_eq.2 e⟩⟩
  have h2 : k ∈ (partsL ks s 1 row).map (·.1) ↔ s.testBit k = true := by
    rw [List.mem_map]
    constructor
    · rintro ⟨r, hr, rfl⟩
      exact (partsL_mem ks s 1 row r hr).2.2
    · intro hk
      have := hsb k hk
      obtain ⟨r, hr, e⟩ := partsL_all ks s 1 row k this.1 (by omega) hk
      exact ⟨r, hr, e⟩
  rw [hm] at h1
  exact Bool.eq_iff_iff.2 (h1.trans h2)
theorem Ap1.made {w5 w6 w9 : World} {B5 s : Nat} {row : List Int} {x : Int} {av a5 : Option Addr} {nv cv c5 g9 c9 : Nat} {L : List Pt} (ho : w5.ownsRow B5 51 2 (.slice a5 L.length c5) L.length (pz L)) (hv : Pv B5 w5 L (partsL ks s 1 row)) (hb : Below w.heap.size w w5) (hB : w.heap.size ≤ B5) (hb6 : Below w5.heap.size w5 w6) (ho9 : w9.ownsRow w.heap.size 51 2 (.slice (some ⟨g9, 0, none⟩) (L.length + 1) c9) (L.length + 1) (pz L ++ [.int .i64 x, .slice av nv cv])) (hg9 : w6.grownBy w9 (Value.slice a5 L.length c5).ownBlock) : Ap1 w w9 ks s row (x, av, nv, cv) (.slice (some ⟨g9, 0, none⟩) (L.length + 1) c9) L := by
  have o6 := own_later ho hb6
  have v6 := hv.later hb6
  refine ⟨?_, ?_, (below_on hb hb6).grown hg9 (below_on hb hb6).size (fun k e => by have := (ho.lt k e).1; omega)⟩
  · rw [pz_snoc, List.length_append]
    exact ho9
  · have := v6.grown hg9 (fun p hp k e e2 => by
      obtain ⟨m, hm, rfl⟩ := List.getElem_of_mem hp
      exact own_kinds (v6.2 m hm (by rw [← v6.1]; exact hm)).2 o6 (by decide) e e2)
    exact ⟨this.1, fun i h1 h2 => ⟨(this.2 i h1 h2).1, own_lower (this.2 i h1 h2).2 hB⟩⟩
/-- What was put on stays while only what is the world's is written; then it is put. -/
theorem Ap1.put {W W' : World} {own1 : Nat → Nat} {s : Nat} {row vals : List Int} {x : Int} {av : Option Addr} {nv cv : Nat} {v : Value} {L : List Pt} (h : Ap1 w W ks s row (x, av, nv, cv) v L) (hr : row.length = fsum ks s 1) (hsb : Sb ks s) (hc : comeS ks s x nv = 0) (hks : ks.length ≤ 12) (hk4 : ∀ x ∈ ks, x.2.length ≤ 4)
    (hvs : Iz w (.slice av nv cv) vals) (hav : av = none → (nv, cv) = (0, 0)) (hv0 : ∀ k, (Value.slice av nv cv).ownBlock = some k → own k = 0 ∧ k < w.heap.size)
    (hX : Wx 0 W' own1 gw vk gp gm gt M ks gs fr f q T) (hK : Wk (rel own w 0) own1 W W') (hw : Wi ks f q T) (a b : Int) (hib : InB (a, b)) (hfn : f (a, b) = none) (hcnt : ∀ E : List (Int × Int), E.Nodup → (∀ e ∈ E, (f e).isSome = true) → E.length < 200) (hM : M ≤ 900000) :
    Calls Tryz.prog 67 #[.pointer (some ⟨gw, 0, none⟩), .agg #[.int .i64 a, .int .i64 b], v] W' fun e w' => e = .returned (.tuple #[]) ∧ ∃ (vals' : List Int) (g : Nat) (own' : Nat → Nat), Wx 0 w' own' gw vk gp gm gt (M + 3) ks gs fr (fun y => if y = (a, b) then some (s ||| 2 ^ x.toNat) else f y) (fun y => if y = s ||| 2 ^ x.toNat then some g else q y) (moreT q T (s ||| 2 ^ x.toNat) (a, b) vals') ∧ Wk own own' w w' ∧ Wi ks (fun y => if y = (a, b) then some (s ||| 2 ^ x.toNat) else f y) (fun y => if y = s ||| 2 ^ x.toNat then some g else q y) (moreT q T (s ||| 2 ^ x.toNat) (a, b) vals') ∧ vals'.length = fsum ks (s ||| 2 ^ x.toNat) 1 ∧ ∀ r, r ∈ partsL ks (s ||| 2 ^ x.toNat) 1 vals' ↔ r ∈ partsL ks s 1 row ∨ r = (x.toNat, vals) := by
  obtain ⟨hpg, hmap⟩ := h.pg hr hc
  obtain ⟨h1, h2, h3⟩ := h
  have hset : setOf (L ++ [(x, av, nv, cv)]) = s ||| 2 ^ x.toNat := by rw [setOf_push, set_all hsb hmap]
  have hnew : ∀ k, w.heap.size ≤ k → rel own w 0 k = 0 := fun k hk => rel_new hk
  have hm := hK.2
  have o1 : W'.ownsRow w.heap.size 51 2 v (L ++ [(x, av, nv, cv)]).length (pz (L ++ [(x, av, nv, cv)])) := hm.own h1 (fun k e e2 => e2.1 (hnew k (h1.lt k e).1))
  have hIzL : ∀ (i : Nat) (i1 : i < L.length) (i2 : i < (partsL ks s 1 row).length), Iz W' (ptV L[i]) (partsL ks s 1 row)[i].2 := fun i i1 i2 => by
    have hb := (h2.2 i i1 i2).2
    exact Iz.own (hm.own hb (fun k e e2 => e2.1 (hnew k (hb.lt k e).1)))
  have hIzp : Iz W' (.slice av nv cv) vals := (hvs.later h3).frame hm (fun k e e2 => e2.1 ((rel_old (hv0 k e).2).trans (hv0 k e).1))
  have hV : ∀ p ∈ L ++ [(x, av, nv, cv)], Iz W' (ptV p) (valsOf W' (ptV p)) ∧ (p.2.1 = none → p.2.2 = (0, 0)) := fun p hp => by
    rcases List.mem_append.1 hp with hp | hp
    · obtain ⟨i, hi, rfl⟩ := List.getElem_of_mem hp
      have i2 : i < (partsL ks s 1 row).length := by rw [← h2.1]; exact hi
      have := hIzL i hi i2
      refine ⟨by rw [this.vals]; exact this, fun e => ?_⟩
      rcases (h2.2 i hi i2).2.2 with ⟨e', -⟩ | ⟨g, c, cur, e', -⟩
      · simp only [ptV, Value.slice.injEq] at e'
        exact Prod.ext e'.2.1 e'.2.2
      · simp only [ptV, Value.slice.injEq] at e'
        rw [e] at e'
        cases e'.1
    · rw [List.mem_singleton.1 hp]
      exact ⟨by rw [show valsOf W' (ptV (x, av, nv, cv)) = vals from hIzp.vals]; exact hIzp, hav⟩
  refine (put_parts hX hw hks hk4 a b hib hfn hcnt hM v (L ++ [(x, av, nv, cv)]) (fun p => valsOf W' (ptV p)) (Rp.own o1) hpg hV).mono ?_
  rintro e w' ⟨rfl, vals', g, own', r1, r2, r3, r4, r5⟩
  rw [hset] at r1 r3 r4 r5
  refine ⟨rfl, vals', g, own', r1, ?_, r3, r4, fun r => ?_⟩
  · exact ((Wk.later h3).trans hK).trans r2
  · rw [r5]
    constructor
    · rintro ⟨p, hp, rfl⟩
      rcases List.mem_append.1 hp with hp | hp
      · obtain ⟨i, hi, rfl⟩ := List.getElem_of_mem hp
        have i2 : i < (partsL ks s 1 row).length := by rw [← h2.1]; exact hi
        left
        rw [(hIzL i hi i2).vals, (h2.2 i hi i2).1]
        exact List.getElem_mem i2
      · rw [List.mem_singleton.1 hp]
        right
        rw [show valsOf W' (ptV (x, av, nv, cv)) = vals from hIzp.vals]
    · rintro (hr' | rfl)
      · obtain ⟨i, hi, rfl⟩ := List.getElem_of_mem hr'
        have i1 : i < L.length := by rw [h2.1]; exact hi
        refine ⟨L[i], List.mem_append_left _ (List.getElem_mem i1), ?_⟩
        rw [(hIzL i i1 hi).vals, (h2.2 i i1 hi).1]
        rfl
      · exact ⟨(x, av, nv, cv), by simp, by rw [show valsOf W' (ptV (x, av, nv, cv)) = vals from hIzp.vals]⟩
end
end Go.Proofs.YtfbhoemfabgjpaaGreat
