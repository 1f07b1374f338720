/-
  World: why an entity has no part of a kind.
-/
import Derived.Test.YtafmiolehlagkaaGreatWDes
namespace Go.Proofs.YtafmiolehlagkaaGreat
open Go.RowKit
set_option maxRecDepth 100000
/-- Why there is no part of a kind. -/
def hasE (ks : List Kind) (lv : Bool) (s : Nat) (x : Int) : Int := if lv then (if 1 ≤ x ∧ x ≤ (ks.length : Int) then (if s.testBit x.toNat then 0 else 62) else 60) else 41
section
variable {w w' : World} {own : Nat → Nat} {gw gp gm gt M M' : Nat} {vk : Value} {ks : List Kind} {gs fr gs' fr' : List Nat} {f f' : Int × Int → Option Nat} {q q' : Nat → Option Nat} {T T' : Nat → Ts}
set_option maxHeartbeats 4000000 in
theorem haspart_any (h : Wx 0 w own gw vk gp gm gt M ks gs fr f q T) (a b x : Int) (hib : InB (a, b)) (hks : ks.length ≤ 12) (s : Nat) (hs : s < 8192) (hf : livesOf gs fr a b = true → f (a, b) = some s) :
    Calls Tryz.prog 76 #[.pointer (some ⟨gw, 0, none⟩), .agg #[.int .i64 a, .int .i64 b], .int .i64 x] w fun e w' => e = .returned (.int .i64 (hasE ks (livesOf gs fr a b) s x)) ∧ Below w.heap.size w w' := by
  obtain ⟨w1, hw1⟩ : ∃ X, X = w.alloc (.cells #[.int .i64 a, .int .i64 b] 29) := ⟨_, rfl⟩
  have B1 : Below w.heap.size w w1 := hw1 ▸ below_alloc w _
  have hx1 : w1.heap[w.heap.size]? = some (.cells #[.int .i64 a, .int .i64 b] 29 (0, 0)) := hw1 ▸ heap_alloc_new w _
  have H1 := hide (h.later B1)
  have HB1 := hide B1
  have JL : Hid (Calls Tryz.prog 32 #[.pointer (some ⟨gw, 0, none⟩), .agg #[.int .i64 a, .int .i64 b]] w1 fun e w' => e = .returned (.bool (livesOf gs fr a b)) ∧ Below w1.heap.size w1 w') := wlives_any H1.out a b
  have JK : Hid (∀ W, Below w1.heap.size w1 W → Calls Tryz.prog 146 #[.pointer (some ⟨gw, 0, none⟩), .int .i64 x] W fun e w' => e = .returned (.bool (decide (1 ≤ x ∧ x ≤ (ks.length : Int)))) ∧ w' = W) := fun W hW => by
    have hx := H1.out.later hW
    exact iskind_any hx.2.2.1 hx.2.2.2.1.kr x
  have HLK : Hid (livesOf gs fr a b = true → ∀ W, Below w1.heap.size w1 W → (Instr.lookup 106 (.map (some gm)) (.agg #[.int .i64 a, .int .i64 b]) false).run Tryz.prog W = .ok (.int .i64 (s : Int)) W ∧ W.cell? ⟨gw, 2, none⟩ = some (.map (some gm)) ∧ W.cell? ⟨w.heap.size, 0, none⟩ = some (.int .i64 a) ∧ W.cell? ⟨w.heap.size, 1, none⟩ = some (.int .i64 b)) := fun hl W hW => by
    have hx := H1.out.later hW
    exact ⟨hx.mp.look1 a b hib (hf hl), hx.cells.2.2.1, kx_cells hx1 hW⟩
  obtain ⟨p0, p1⟩ := kx_cells hx1 (Below.refl _ w1)
  clear h hf H1
  go_enter Tryz.func76, Tryz.ntmps76
  go_upto_region 1 with fail
  rw [← hw1]
  obtain ⟨kx, hkx⟩ : ∃ k, k = w.heap.size := ⟨_, rfl⟩
  rw [← hkx] at p0 p1 HLK ⊢
  clear hx1 hw1 hkx B1
  cases hlv : livesOf gs fr a b with
  | false =>
    rw [hlv] at JL
    have EC : Hid (hasE ks (livesOf gs fr a b) s x = 41) := by
      unfold Hid
      rw [hlv]
      rfl
    clear HLK JK hlv
    go_wp2_with fail
    refine JL.out.mono ?_
    rintro e w2 ⟨rfl, hb2⟩
    have HB2 := hide hb2
    clear hb2
    go_wp2_with fail
    go_ret
    exact ⟨ret_int EC.out.symm, below_on HB1.out HB2.out⟩
  | true =>
    have HL2 := hide (HLK.out hlv)
    have HLV := hide hlv
    rw [hlv] at JL
    clear HLK hlv
    by_cases hk : 1 ≤ x ∧ x ≤ (ks.length : Int)
    · obtain ⟨k, rfl⟩ : ∃ k : Nat, x = (k : Int) := ⟨x.toNat, by omega⟩
      have EC : Hid (hasE ks (livesOf gs fr a b) s (k : Int) = if s.testBit k then 0 else 62) := by
        unfold hasE Hid
        rw [if_pos HLV.out, if_pos hk, Int.toNat_natCast]
      rw [decide_eq_true hk] at JK
      have JH : Hid (∀ W, Calls Tryz.prog 133 #[.int .i64 (s : Int), .int .i64 (k : Int)] W fun e w' => e = .returned (.bool (s.testBit k)) ∧ w' = W) := fun W => has_any s k W hs (by omega)
      generalize s.testBit k = bt at *
      clear hk
      go_wp2_with fail
      refine JL.out.mono ?_
      rintro e w2 ⟨rfl, hb2⟩
      have HB2 := hide hb2
      clear hb2 JL
      go_wp2_with fail
      refine (JK.out w2 HB2.out).mono ?_
      rintro e w2' ⟨rfl, rfl⟩
      obtain ⟨w2, rfl⟩ : ∃ X, X = w2' := ⟨_, rfl⟩
      clear JK p0 p1
      obtain ⟨hlk, c2, p0, p1⟩ := HL2.out w2.drew (below_on HB2.out (below_drew w2))
      have HB3 := hide (below_on HB2.out (below_drew w2))
      clear HL2
      go_upto_region 5 with fail
      refine wp_region_noPanic ?_
      refine wp_region_late (J := fun i => i != 99) (S := fun W => W.cell? ⟨gw, 2, none⟩ = some (.map (some gm)) ∧ W.cell? ⟨kx, 0, none⟩ = some (.int .i64 a) ∧ W.cell? ⟨kx, 1, none⟩ = some (.int .i64 b)) (by kernel_rfl) ⟨c2, p0, p1⟩ (fun hHeld => ?_)
      refine' wpAnyJ_takeW (i := 0) (oi := { dst := some 15, op := Op.move (Operand.tmp 0), type := 37, pos := "world.go:175", after := #[], guard := none }) (v := _) rfl (by kernel_rfl) (by kernel_rfl) (by kernel_rfl) (fun _ _ _ h => h) (Or.inl ⟨by rfl, ?hyA1⟩) ?reA1
      case hyA1 => (intro W hSw; (try dsimp only at hSw); go_simp; try with_reducible rfl)
      try simp only [Act.put, List.setIfInBounds_toArray, List.set_cons_zero, List.set_cons_succ]
      refine' wpAnyJ_takeW (i := 1) (oi := { dst := some 16, op := Op.nilCheck (Operand.tmp 15), type := 0, pos := "world.go:175", after := #[{ on := 0, ground := Ground.data }], guard := none }) (v := _) rfl (by kernel_rfl) (by kernel_rfl) (by kernel_rfl) (fun _ _ _ h => h) (Or.inl ⟨by rfl, ?hyA2⟩) ?reA2
      case hyA2 => (intro W hSw; (try dsimp only at hSw); go_simp; try with_reducible rfl)
      try simp only [Act.put, List.setIfInBounds_toArray, List.set_cons_zero, List.set_cons_succ]
      refine' wpAnyJ_takeW (i := 2) (oi := { dst := some 17, op := Op.fieldAddr 109 (Operand.tmp 16) 2, type := 0, pos := "world.go:175", after := #[{ on := 1, ground := Ground.data }], guard := none }) (v := _) rfl (by kernel_rfl) (by kernel_rfl) (by kernel_rfl) (fun _ _ _ h => h) (Or.inl ⟨by rfl, ?hyA3⟩) ?reA3
      case hyA3 => (intro W hSw; (try dsimp only at hSw); go_simp; try with_reducible rfl)
      try simp only [Act.put, List.setIfInBounds_toArray, List.set_cons_zero, List.set_cons_succ]
      refine' wpAnyJ_take (i := 3) (oi := { dst := some 18, op := Op.load 106 (Operand.tmp 17), type := 106, pos := "world.go:175", after := #[{ on := 2, ground := Ground.data }], guard := none }) (v := _) rfl (by kernel_rfl) (by kernel_rfl) (by kernel_rfl) (by kernel_rfl) (fun _ _ _ h => h) (Or.inl ⟨by rfl, ?hyA4⟩) (by assumption) ?reA4
      case hyA4 => (intro W hSw; (try dsimp only at hSw); go_simp; try with_reducible rfl)
      try simp only [Act.put, List.setIfInBounds_toArray, List.set_cons_zero, List.set_cons_succ]
      refine' wpAnyJ_take (i := 4) (oi := { dst := some 19, op := Op.load 29 (Operand.tmp 4), type := 29, pos := "world.go:175", after := #[], guard := none }) (v := _) rfl (by kernel_rfl) (by kernel_rfl) (by kernel_rfl) (by kernel_rfl) (fun _ _ _ h => h) (Or.inl ⟨by rfl, ?hyA5⟩) (by assumption) ?reA5
      case hyA5 => (intro W hSw; (try dsimp only at hSw); go_simp; try with_reducible rfl)
      try simp only [Act.put, List.setIfInBounds_toArray, List.set_cons_zero, List.set_cons_succ]
      refine' wpAnyJ_takeW (i := 6) (oi := { dst := some 21, op := Op.move (Operand.tmp 2), type := 3, pos := "world.go:175", after := #[], guard := none }) (v := _) rfl (by kernel_rfl) (by kernel_rfl) (by kernel_rfl) (fun _ _ _ h => h) (Or.inl ⟨by rfl, ?hyA6⟩) ?reA6
      case hyA6 => (intro W hSw; (try dsimp only at hSw); go_simp; try with_reducible rfl)
      try simp only [Act.put, List.setIfInBounds_toArray, List.set_cons_zero, List.set_cons_succ]
      refine wpAnyJ_ready (rs := [5]) (by kernel_rfl) (by simp) ?_
      refine AllReadyJ.cons (o := { dst := some 20, op := Op.lookup 106 (Operand.tmp 18) (Operand.tmp 19) false, type := 3, pos := "world.go:175", after := #[{ on := 3, ground := Ground.data }, { on := 4, ground := Ground.data }], guard := none }) rfl (fun K hK => ?_) AllReadyJ.nil
      go_simp
      refine hK.out _ _ (fun _ _ => ⟨c2, p0, p1⟩) ?_
      clear hK K
      try simp only [Act.put, List.setIfInBounds_toArray, List.set_cons_zero, List.set_cons_succ]
      refine wpAnyJ_ready (rs := [7]) (by kernel_rfl) (by simp) ?_
      refine AllReadyJ.cons (o := { dst := some 22, op := Op.call { callee := Callee.value (Operand.func 133), args := #[Operand.tmp 20, Operand.tmp 21], argTypes := #[3, 3] }, type := 4, pos := "world.go:175", after := #[{ on := 5, ground := Ground.data }, { on := 6, ground := Ground.data }], guard := none }) rfl (fun K hK => ?_) AllReadyJ.nil
      go_simp
      go_at_call 133
      refine (JH.out _).mono ?_
      rintro e w3 ⟨rfl, rfl⟩
      go_simp
      refine hK.out _ _ (fun _ _ => ⟨c2, p0, p1⟩) ?_
      clear hK K
      try simp only [Act.put, List.setIfInBounds_toArray, List.set_cons_zero, List.set_cons_succ]
      refine' wpAnyJ_takeW (i := 8) (oi := { dst := some 23, op := Op.unOp UnOp.not 4 (Operand.tmp 22), type := 4, pos := "world.go:175", after := #[{ on := 7, ground := Ground.data }], guard := none }) (v := _) rfl (by kernel_rfl) (by kernel_rfl) (by kernel_rfl) (fun _ _ _ h => h) (Or.inl ⟨by rfl, ?hyA7⟩) ?reA7
      case hyA7 => (intro W hSw; (try dsimp only at hSw); go_simp; try with_reducible rfl)
      try simp only [Act.put, List.setIfInBounds_toArray, List.set_cons_zero, List.set_cons_succ]
      refine wpAnyJ_done (by kernel_rfl) ?_ _
      refine NoPanic.normal ?_
      cases bt with
      | true =>
        have EC2 : Hid (hasE ks (livesOf gs fr a b) s (k : Int) = 0) := EC.out.trans rfl
        clear EC hlk
        go_wp2_with fail
        go_ret
        exact ⟨ret_int EC2.out.symm, below_on HB1.out HB3.out⟩
      | false =>
        have EC2 : Hid (hasE ks (livesOf gs fr a b) s (k : Int) = 62) := EC.out.trans rfl
        clear EC hlk
        go_wp2_with fail
        go_ret
        exact ⟨ret_int EC2.out.symm, below_on HB1.out HB3.out⟩
    · rw [decide_eq_false hk] at JK
      have EC : Hid (hasE ks (livesOf gs fr a b) s x = 60) := by
        unfold hasE Hid
        rw [if_pos HLV.out, if_neg hk]
      clear hk HL2
      go_wp2_with fail
      refine JL.out.mono ?_
      rintro e w2 ⟨rfl, hb2⟩
      have HB2 := hide hb2
      clear hb2 JL
      go_wp2_with fail
      refine (JK.out w2 HB2.out).mono ?_
      rintro e w2' ⟨rfl, rfl⟩
      clear JK
      go_wp2_with fail
      go_ret
      exact ⟨ret_int EC.out.symm, below_on HB1.out HB2.out⟩
end
end Go.Proofs.YtafmiolehlagkaaGreat
