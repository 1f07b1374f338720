import Derived.Test.YtmfoehaeejhlpaaGreatDoorGaBS
/-
  Same: the leader of a node's group.
-/
namespace Go.Proofs.YtmfoehaeejhlpaaGreatDoor
open Go.RowKit Yn
set_option maxRecDepth 100000
def Ks (L : List (Nat × Nat)) (x : Nat) : Prop := ∃ v, (x, v) ∈ L
/-- Links lead to nodes that are the same, and later in time. -/
def IL (B : Nat) (W : World) (M : Nat) (t : Nat → Nat) (L : List (Nat × Nat)) : Prop := ∀ p ∈ L, t p.1 < t p.2 ∧ t p.2 ≤ M ∧ Rl B W p.1 p.2
def blk (v : Value) : Nat := match v with | .pointer (some a) => a.block | _ => 0
theorem nb_below {B : Nat} {W w : World} {x : Nat} (h : Nb W x) (hx : x < B) (hb : Below B W w) : Nb w x := by
  obtain ⟨c, h⟩ := h
  exact ⟨c, (hb.block x hx).trans h⟩
/-- What a search for a leader leaves. -/
def Ld (B : Nat) (W : World) (M : Nat) (t : Nat → Nat) (gm : Nat) (L : List (Nat × Nat)) (w w' : World) (L' : List (Nat × Nat)) : Prop := Ml w' gm L' ∧ IL B W M t L' ∧ (∀ y, Ks L y ↔ Ks L' y) ∧ Mv w w' (fun q => q = gm) ∧ w'.heap.size = w.heap.size
theorem Ld.trans {B M gm : Nat} {W w w1 w2 : World} {t : Nat → Nat} {L L1 L2 : List (Nat × Nat)} (h : Ld B W M t gm L w w1 L1) (k : Ld B W M t gm L1 w1 w2 L2) : Ld B W M t gm L w w2 L2 := ⟨k.1, k.2.1, fun y => (h.2.2.1 y).trans (k.2.2.1 y), h.2.2.2.1.trans k.2.2.2.1 (fun _ _ e => e), k.2.2.2.2.trans h.2.2.2.2⟩
theorem halve {B M gm n m f : Nat} {W w : World} {t : Nat → Nat} {L : List (Nat × Nat)} (hm : Ml w gm L) (hb : Below B W w) (hI : IL B W M t L) (h1 : (n, m) ∈ L) (h2 : (m, f) ∈ L) : ∃ w' L', (Instr.mapUpdate 89 (.map (some gm)) (pt n) (pt f)).run Tryz.prog w = .ok () w' ∧ Ld B W M t gm L w w' L' := by
  have q1 := hI _ h1
  have q2 := hI _ h2
  have hn := q1.2.2.nb
  obtain ⟨w', L', r1, r2, r3, r4, r5, r6, r7⟩ := hm.store f (nb_below hn.1 hn.2.2.1 hb) (fun p hp => nb_below (hI p hp).2.2.nb.1 (hI p hp).2.2.nb.2.2.1 hb)
  refine ⟨w', L', r1, r2, fun p hp => ?_, fun y => ⟨r7 y, fun ⟨v, hv⟩ => ?_⟩, r3, r4⟩
  · rcases r5 p hp with rfl | hp
    · exact ⟨Nat.lt_trans q1.1 q2.1, q2.2.1, q1.2.2.trans q2.2.2⟩
    · exact hI p hp
  · rcases r5 _ hv with e | hv
    · injection e with e _
      subst e
      exact ⟨m, h1⟩
    · exact ⟨v, hv⟩
set_option maxHeartbeats 4000000 in
theorem leader_any {B M s gm g : Nat} {W w : World} {v : Value} {t : Nat → Nat} {L : List (Nat × Nat)} (hs : w.heap[s]? = some (.cells #[.map (some gm), v] 94 (0, 0))) (hm : Ml w gm L) (hb : Below B W w) (hBw : B ≤ w.heap.size) (hB : B ≤ gm) (hsg : s ≠ gm) (hI : IL B W M t L) (hg : Rl B W g g) : Calls Tryz.prog 61 #[.pointer (some ⟨s, 0, none⟩), .pointer (some ⟨g, 0, none⟩)] w fun e w' => ∃ x L', e = .returned (.pointer (some ⟨x, 0, none⟩)) ∧ Rl B W g x ∧ ¬ Ks L' x ∧ Ld B W M t gm L w w' L' := by
  have H0 : Hid (Ld B W M t gm L w w L) := ⟨hm, hI, fun _ => Iff.rfl, Mv.refl _ _, rfl⟩
  have HS : Hid (∀ w', Mv w w' (fun q => q = gm) → w'.cell? ⟨s, 0, none⟩ = some (.map (some gm))) := fun w' h => by
    have := h.at hs (fun e => hsg e)
    rw [cell_of_row w' s _ _ 94 (0, 0) this]; rfl
  have HB : Hid (∀ w', Mv w w' (fun q => q = gm) → Below B W w') := fun w' h => hb.trans (h.below hBw (fun x e => by omega))
  have HG := hide hg
  have hsg' := hide hsg
  clear hm hb hI hg hs hsg hB hBw
  go_enter Tryz.func61, Tryz.ntmps61
  go_wp2_with fail
  go_loopw [1] (fun v1 wr => ∃ n L', v1 = .pointer (some ⟨n, 0, none⟩) ∧ Hid (Rl B W g n) ∧ Hid (Ld B W M t gm L w wr L')) (fun v1 _ => M + 1 - t (blk v1))
  case atStart => exact ⟨g, L, rfl, HG.out, H0.out⟩
  case round =>
    obtain ⟨n, L1, rfl, hn, hL⟩ := hrel
    have c0 := HS.out wr hL.out.2.2.2.1
    have hbr := hide (HB.out wr hL.out.2.2.2.1)
    have hnb : Hid (Nb wr n) := nb_below hn.out.nb.2.1 hn.out.nb.2.2.2 hbr.out
    have hLb : Hid (∀ p ∈ L1, Nb wr p.1) := fun p hp => nb_below (hL.out.2.1 p hp).2.2.nb.1 (hL.out.2.1 p hp).2.2.nb.2.2.1 hbr.out
    rcases hL.out.1.look hnb.out hLb.out with ⟨r1, r2⟩ | ⟨m, r1, r2⟩
    · unfold pt at r1
      have R2 := hide r2
      clear r2
      go_wp2_with fail
      go_ret
      exact ⟨n, L1, rfl, hn.out, fun ⟨v, hv⟩ => R2.out _ hv rfl, hL.out⟩
    · unfold pt at r1
      have R2 := hide r2
      have q := hide (hL.out.2.1 _ r2)
      have hm2 : Hid (Rl B W g m) := hn.out.trans q.out.2.2
      have hmb : Hid (Nb wr m) := nb_below hm2.out.nb.2.1 hm2.out.nb.2.2.2 hbr.out
      have hme : Hid (M + 1 - t m < M + 1 - t n) := by
        have h1 := q.out.1
        have h2 := q.out.2.1
        unfold Hid
        simp only at h1 h2
        omega
      clear r2
      rcases hL.out.1.look hmb.out hLb.out with ⟨k1, k2⟩ | ⟨f, k1, k2⟩
      · unfold pt at k1
        clear k2
        go_wp2_with fail
        go_roundw
        case measure => exact hme.out
        case rel => exact ⟨m, L1, rfl, hm2.out, hL.out⟩
      · unfold pt at k1
        obtain ⟨w2, L2, u1, u2⟩ := halve hL.out.1 hbr.out hL.out.2.1 R2.out k2
        unfold pt at u1
        have U2 := hide (hL.out.trans u2)
        clear k2 u2
        go_wp2_with fail
        go_roundw
        case measure => exact hme.out
        case rel => exact ⟨m, L2, rfl, hm2.out, U2.out⟩
end Go.Proofs.YtmfoehaeejhlpaaGreatDoor

/-
  Same: isAlike, of two nodes that are.
-/
namespace Go.Proofs.YtmfoehaeejhlpaaGreatDoor
open Go.RowKit Yn
set_option maxRecDepth 100000
set_option maxHeartbeats 8000000 in
theorem alike_yes {w : World} {a b m c d : Nat} {op n : Int} {t : ByteArray} {ao bo : Option Addr} (hc : (fun V => V.cell? ⟨a, 0, none⟩ = some (.int .i64 op) ∧ V.cell? ⟨b, 0, none⟩ = some (.int .i64 op) ∧ V.cell? ⟨a, 1, none⟩ = some (.string t) ∧ V.cell? ⟨b, 1, none⟩ = some (.string t) ∧ V.cell? ⟨a, 2, none⟩ = some (.int .i64 n) ∧ V.cell? ⟨b, 2, none⟩ = some (.int .i64 n) ∧ V.cell? ⟨a, 3, none⟩ = some (.slice ao m c) ∧ V.cell? ⟨b, 3, none⟩ = some (.slice bo m d)) w) : Calls Tryz.prog 62 #[.pointer (some ⟨a, 0, none⟩), .pointer (some ⟨b, 0, none⟩)] w fun e w' => e = .returned (.bool true) ∧ w' = w.drew := by
  go_enter Tryz.func62, Tryz.ntmps62
  go_upto_region 1 with fail
  refine wp_region_noPanic ?_
  refine wp_region_held_drew (S := fun V => V.cell? ⟨a, 0, none⟩ = some (.int .i64 op) ∧ V.cell? ⟨b, 0, none⟩ = some (.int .i64 op) ∧ V.cell? ⟨a, 1, none⟩ = some (.string t) ∧ V.cell? ⟨b, 1, none⟩ = some (.string t) ∧ V.cell? ⟨a, 2, none⟩ = some (.int .i64 n) ∧ V.cell? ⟨b, 2, none⟩ = some (.int .i64 n) ∧ V.cell? ⟨a, 3, none⟩ = some (.slice ao m c) ∧ V.cell? ⟨b, 3, none⟩ = some (.slice bo m d)) (by kernel_rfl) (hc) (fun hHeld => ?_)
  refine' wpAnyH_take (i := 0) (oi := { dst := some 5, op := Go.Op.move (Go.Operand.tmp 0), type := 23, pos := "same.go:50", after := #[], guard := none }) (v := _) rfl (by kernel_rfl) (by kernel_rfl) (by kernel_rfl) (fun _ _ _ h => h) (Or.inl ⟨by rfl, ?hyr1_0⟩) (by assumption) ?rer1_0
  case hyr1_0 => (intro W hSw; (try dsimp only at hSw); go_simp; try with_reducible rfl)
  try simp only [Act.put, List.setIfInBounds_toArray, List.set_cons_zero, List.set_cons_succ]
  refine' wpAnyH_take (i := 1) (oi := { dst := some 6, op := Go.Op.nilCheck (Go.Operand.tmp 5), type := 0, pos := "same.go:50", after := #[{ on := 0, ground := Go.Ground.data }], guard := none }) (v := _) rfl (by kernel_rfl) (by kernel_rfl) (by kernel_rfl) (fun _ _ _ h => h) (Or.inl ⟨by rfl, ?hyr1_1⟩) (by assumption) ?rer1_1
  case hyr1_1 => (intro W hSw; (try dsimp only at hSw); go_simp; try with_reducible rfl)
  try simp only [Act.put, List.setIfInBounds_toArray, List.set_cons_zero, List.set_cons_succ]
  refine' wpAnyH_take (i := 2) (oi := { dst := some 7, op := Go.Op.fieldAddr 51 (Go.Operand.tmp 6) 0, type := 0, pos := "same.go:50", after := #[{ on := 1, ground := Go.Ground.data }], guard := none }) (v := _) rfl (by kernel_rfl) (by kernel_rfl) (by kernel_rfl) (fun _ _ _ h => h) (Or.inl ⟨by rfl, ?hyr1_2⟩) (by assumption) ?rer1_2
  case hyr1_2 => (intro W hSw; (try dsimp only at hSw); go_simp; try with_reducible rfl)
  try simp only [Act.put, List.setIfInBounds_toArray, List.set_cons_zero, List.set_cons_succ]
  refine' wpAnyH_take (i := 3) (oi := { dst := some 8, op := Go.Op.load 3 (Go.Operand.tmp 7), type := 3, pos := "same.go:50", after := #[{ on := 2, ground := Go.Ground.data }], guard := none }) (v := _) rfl (by kernel_rfl) (by kernel_rfl) (by kernel_rfl) (fun _ _ _ h => h) (Or.inl ⟨by rfl, ?hyr1_3⟩) (by assumption) ?rer1_3
  case hyr1_3 => (intro W hSw; (try dsimp only at hSw); go_simp; try with_reducible rfl)
  try simp only [Act.put, List.setIfInBounds_toArray, List.set_cons_zero, List.set_cons_succ]
  refine' wpAnyH_take (i := 4) (oi := { dst := some 9, op := Go.Op.move (Go.Operand.tmp 1), type := 23, pos := "same.go:50", after := #[], guard := none }) (v := _) rfl (by kernel_rfl) (by kernel_rfl) (by kernel_rfl) (fun _ _ _ h => h) (Or.inl ⟨by rfl, ?hyr1_4⟩) (by assumption) ?rer1_4
  case hyr1_4 => (intro W hSw; (try dsimp only at hSw); go_simp; try with_reducible rfl)
  try simp only [Act.put, List.setIfInBounds_toArray, List.set_cons_zero, List.set_cons_succ]
  refine' wpAnyH_take (i := 5) (oi := { dst := some 10, op := Go.Op.nilCheck (Go.Operand.tmp 9), type := 0, pos := "same.go:50", after := #[{ on := 4, ground := Go.Ground.data }], guard := none }) (v := _) rfl (by kernel_rfl) (by kernel_rfl) (by kernel_rfl) (fun _ _ _ h => h) (Or.inl ⟨by rfl, ?hyr1_5⟩) (by assumption) ?rer1_5
  case hyr1_5 => (intro W hSw; (try dsimp only at hSw); go_simp; try with_reducible rfl)
  try simp only [Act.put, List.setIfInBounds_toArray, List.set_cons_zero, List.set_cons_succ]
  refine' wpAnyH_take (i := 6) (oi := { dst := some 11, op := Go.Op.fieldAddr 51 (Go.Operand.tmp 10) 0, type := 0, pos := "same.go:50", after := #[{ on := 5, ground := Go.Ground.data }], guard := none }) (v := _) rfl (by kernel_rfl) (by kernel_rfl) (by kernel_rfl) (fun _ _ _ h => h) (Or.inl ⟨by rfl, ?hyr1_6⟩) (by assumption) ?rer1_6
  case hyr1_6 => (intro W hSw; (try dsimp only at hSw); go_simp; try with_reducible rfl)
  try simp only [Act.put, List.setIfInBounds_toArray, List.set_cons_zero, List.set_cons_succ]
  refine' wpAnyH_take (i := 7) (oi := { dst := some 12, op := Go.Op.load 3 (Go.Operand.tmp 11), type := 3, pos := "same.go:50", after := #[{ on := 6, ground := Go.Ground.data }], guard := none }) (v := _) rfl (by kernel_rfl) (by kernel_rfl) (by kernel_rfl) (fun _ _ _ h => h) (Or.inl ⟨by rfl, ?hyr1_7⟩) (by assumption) ?rer1_7
  case hyr1_7 => (intro W hSw; (try dsimp only at hSw); go_simp; try with_reducible rfl)
  try simp only [Act.put, List.setIfInBounds_toArray, List.set_cons_zero, List.set_cons_succ]
  refine' wpAnyH_take (i := 8) (oi := { dst := some 13, op := Go.Op.binOp Go.BinOp.eql 3 (Go.Operand.tmp 8) (Go.Operand.tmp 12) 3, type := 4, pos := "same.go:50", after := #[{ on := 3, ground := Go.Ground.data }, { on := 7, ground := Go.Ground.data }], guard := none }) (v := _) rfl (by kernel_rfl) (by kernel_rfl) (by kernel_rfl) (fun _ _ _ h => h) (Or.inl ⟨by rfl, ?hyr1_8⟩) (by assumption) ?rer1_8
  case hyr1_8 => (intro W hSw; (try dsimp only at hSw); go_simp; try with_reducible rfl)
  try simp only [Act.put, List.setIfInBounds_toArray, List.set_cons_zero, List.set_cons_succ]
  refine' wpAnyH_take (i := 9) (oi := { dst := some 14, op := Go.Op.move (Go.Operand.tmp 13), type := 4, pos := "same.go:50", after := #[{ on := 8, ground := Go.Ground.data }], guard := none }) (v := _) rfl (by kernel_rfl) (by kernel_rfl) (by kernel_rfl) (fun _ _ _ h => h) (Or.inl ⟨by rfl, ?hyr1_9⟩) (by assumption) ?rer1_9
  case hyr1_9 => (intro W hSw; (try dsimp only at hSw); go_simp; try with_reducible rfl)
  try simp only [Act.put, List.setIfInBounds_toArray, List.set_cons_zero, List.set_cons_succ]
  refine' wpAnyH_take (i := 10) (oi := { dst := some 15, op := Go.Op.move (Go.Operand.tmp 0), type := 23, pos := "same.go:50", after := #[{ on := 9, ground := Go.Ground.guard }], guard := some (9, true) }) (v := _) rfl (by kernel_rfl) (by kernel_rfl) (by kernel_rfl) (fun _ _ _ h => h) (Or.inl ⟨by rfl, ?hyr1_10⟩) (by assumption) ?rer1_10
  case hyr1_10 => (intro W hSw; (try dsimp only at hSw); go_simp; try with_reducible rfl)
  try simp only [Act.put, List.setIfInBounds_toArray, List.set_cons_zero, List.set_cons_succ]
  refine' wpAnyH_take (i := 11) (oi := { dst := some 16, op := Go.Op.nilCheck (Go.Operand.tmp 15), type := 0, pos := "same.go:50", after := #[{ on := 10, ground := Go.Ground.data }, { on := 9, ground := Go.Ground.guard }], guard := some (9, true) }) (v := _) rfl (by kernel_rfl) (by kernel_rfl) (by kernel_rfl) (fun _ _ _ h => h) (Or.inl ⟨by rfl, ?hyr1_11⟩) (by assumption) ?rer1_11
  case hyr1_11 => (intro W hSw; (try dsimp only at hSw); go_simp; try with_reducible rfl)
  try simp only [Act.put, List.setIfInBounds_toArray, List.set_cons_zero, List.set_cons_succ]
  refine' wpAnyH_take (i := 12) (oi := { dst := some 17, op := Go.Op.fieldAddr 51 (Go.Operand.tmp 16) 1, type := 0, pos := "same.go:50", after := #[{ on := 11, ground := Go.Ground.data }, { on := 9, ground := Go.Ground.guard }], guard := some (9, true) }) (v := _) rfl (by kernel_rfl) (by kernel_rfl) (by kernel_rfl) (fun _ _ _ h => h) (Or.inl ⟨by rfl, ?hyr1_12⟩) (by assumption) ?rer1_12
  case hyr1_12 => (intro W hSw; (try dsimp only at hSw); go_simp; try with_reducible rfl)
  try simp only [Act.put, List.setIfInBounds_toArray, List.set_cons_zero, List.set_cons_succ]
  refine' wpAnyH_take (i := 13) (oi := { dst := some 18, op := Go.Op.load 9 (Go.Operand.tmp 17), type := 9, pos := "same.go:50", after := #[{ on := 12, ground := Go.Ground.data }, { on := 9, ground := Go.Ground.guard }], guard := some (9, true) }) (v := _) rfl (by kernel_rfl) (by kernel_rfl) (by kernel_rfl) (fun _ _ _ h => h) (Or.inl ⟨by rfl, ?hyr1_13⟩) (by assumption) ?rer1_13
  case hyr1_13 => (intro W hSw; (try dsimp only at hSw); go_simp; try with_reducible rfl)
  try simp only [Act.put, List.setIfInBounds_toArray, List.set_cons_zero, List.set_cons_succ]
  refine' wpAnyH_take (i := 14) (oi := { dst := some 19, op := Go.Op.move (Go.Operand.tmp 1), type := 23, pos := "same.go:50", after := #[{ on := 9, ground := Go.Ground.guard }], guard := some (9, true) }) (v := _) rfl (by kernel_rfl) (by kernel_rfl) (by kernel_rfl) (fun _ _ _ h => h) (Or.inl ⟨by rfl, ?hyr1_14⟩) (by assumption) ?rer1_14
  case hyr1_14 => (intro W hSw; (try dsimp only at hSw); go_simp; try with_reducible rfl)
  try simp only [Act.put, List.setIfInBounds_toArray, List.set_cons_zero, List.set_cons_succ]
  refine' wpAnyH_take (i := 15) (oi := { dst := some 20, op := Go.Op.nilCheck (Go.Operand.tmp 19), type := 0, pos := "same.go:50", after := #[{ on := 14, ground := Go.Ground.data }, { on := 9, ground := Go.Ground.guard }], guard := some (9, true) }) (v := _) rfl (by kernel_rfl) (by kernel_rfl) (by kernel_rfl) (fun _ _ _ h => h) (Or.inl ⟨by rfl, ?hyr1_15⟩) (by assumption) ?rer1_15
  case hyr1_15 => (intro W hSw; (try dsimp only at hSw); go_simp; try with_reducible rfl)
  try simp only [Act.put, List.setIfInBounds_toArray, List.set_cons_zero, List.set_cons_succ]
  refine' wpAnyH_take (i := 16) (oi := { dst := some 21, op := Go.Op.fieldAddr 51 (Go.Operand.tmp 20) 1, type := 0, pos := "same.go:50", after := #[{ on := 15, ground := Go.Ground.data }, { on := 9, ground := Go.Ground.guard }], guard := some (9, true) }) (v := _) rfl (by kernel_rfl) (by kernel_rfl) (by kernel_rfl) (fun _ _ _ h => h) (Or.inl ⟨by rfl, ?hyr1_16⟩) (by assumption) ?rer1_16
  case hyr1_16 => (intro W hSw; (try dsimp only at hSw); go_simp; try with_reducible rfl)
  try simp only [Act.put, List.setIfInBounds_toArray, List.set_cons_zero, List.set_cons_succ]
  refine' wpAnyH_take (i := 17) (oi := { dst := some 22, op := Go.Op.load 9 (Go.Operand.tmp 21), type := 9, pos := "same.go:50", after := #[{ on := 16, ground := Go.Ground.data }, { on := 9, ground := Go.Ground.guard }], guard := some (9, true) }) (v := _) rfl (by kernel_rfl) (by kernel_rfl) (by kernel_rfl) (fun _ _ _ h => h) (Or.inl ⟨by rfl, ?hyr1_17⟩) (by assumption) ?rer1_17
  case hyr1_17 => (intro W hSw; (try dsimp only at hSw); go_simp; try with_reducible rfl)
  try simp only [Act.put, List.setIfInBounds_toArray, List.set_cons_zero, List.set_cons_succ]
  refine' wpAnyH_take (i := 18) (oi := { dst := some 23, op := Go.Op.binOp Go.BinOp.eql 9 (Go.Operand.tmp 18) (Go.Operand.tmp 22) 9, type := 4, pos := "same.go:50", after := #[{ on := 13, ground := Go.Ground.data }, { on := 17, ground := Go.Ground.data }, { on := 9, ground := Go.Ground.guard }], guard := some (9, true) }) (v := _) rfl (by kernel_rfl) (by kernel_rfl) (by kernel_rfl) (fun _ _ _ h => h) (Or.inl ⟨by rfl, ?hyr1_18⟩) (by assumption) ?rer1_18
  case hyr1_18 => (intro W hSw; (try dsimp only at hSw); go_simp; try with_reducible rfl)
  try simp only [Act.put, List.setIfInBounds_toArray, List.set_cons_zero, List.set_cons_succ]
  refine' wpAnyH_take (i := 19) (oi := { dst := some 24, op := Go.Op.pick (Go.Operand.tmp 14) (Go.Operand.tmp 23) (Go.Operand.const (Go.Value.bool false)), type := 4, pos := "same.go:50", after := #[{ on := 9, ground := Go.Ground.data }, { on := 18, ground := Go.Ground.data }], guard := none }) (v := _) rfl (by kernel_rfl) (by kernel_rfl) (by kernel_rfl) (fun _ _ _ h => h) (Or.inl ⟨by rfl, ?hyr1_19⟩) (by assumption) ?rer1_19
  case hyr1_19 => (intro W hSw; (try dsimp only at hSw); go_simp; try with_reducible rfl)
  try simp only [Act.put, List.setIfInBounds_toArray, List.set_cons_zero, List.set_cons_succ]
  refine' wpAnyH_take (i := 20) (oi := { dst := some 25, op := Go.Op.move (Go.Operand.tmp 24), type := 4, pos := "same.go:50", after := #[{ on := 19, ground := Go.Ground.data }, { on := 9, ground := Go.Ground.chain }], guard := none }) (v := _) rfl (by kernel_rfl) (by kernel_rfl) (by kernel_rfl) (fun _ _ _ h => h) (Or.inl ⟨by rfl, ?hyr1_20⟩) (by assumption) ?rer1_20
  case hyr1_20 => (intro W hSw; (try dsimp only at hSw); go_simp; try with_reducible rfl)
  try simp only [Act.put, List.setIfInBounds_toArray, List.set_cons_zero, List.set_cons_succ]
  refine' wpAnyH_take (i := 21) (oi := { dst := some 26, op := Go.Op.move (Go.Operand.tmp 0), type := 23, pos := "same.go:50", after := #[{ on := 20, ground := Go.Ground.guard }], guard := some (20, true) }) (v := _) rfl (by kernel_rfl) (by kernel_rfl) (by kernel_rfl) (fun _ _ _ h => h) (Or.inl ⟨by rfl, ?hyr1_21⟩) (by assumption) ?rer1_21
  case hyr1_21 => (intro W hSw; (try dsimp only at hSw); go_simp; try with_reducible rfl)
  try simp only [Act.put, List.setIfInBounds_toArray, List.set_cons_zero, List.set_cons_succ]
  refine' wpAnyH_take (i := 22) (oi := { dst := some 27, op := Go.Op.nilCheck (Go.Operand.tmp 26), type := 0, pos := "same.go:50", after := #[{ on := 21, ground := Go.Ground.data }, { on := 20, ground := Go.Ground.guard }], guard := some (20, true) }) (v := _) rfl (by kernel_rfl) (by kernel_rfl) (by kernel_rfl) (fun _ _ _ h => h) (Or.inl ⟨by rfl, ?hyr1_22⟩) (by assumption) ?rer1_22
  case hyr1_22 => (intro W hSw; (try dsimp only at hSw); go_simp; try with_reducible rfl)
  try simp only [Act.put, List.setIfInBounds_toArray, List.set_cons_zero, List.set_cons_succ]
  refine' wpAnyH_take (i := 23) (oi := { dst := some 28, op := Go.Op.fieldAddr 51 (Go.Operand.tmp 27) 2, type := 0, pos := "same.go:50", after := #[{ on := 22, ground := Go.Ground.data }, { on := 20, ground := Go.Ground.guard }], guard := some (20, true) }) (v := _) rfl (by kernel_rfl) (by kernel_rfl) (by kernel_rfl) (fun _ _ _ h => h) (Or.inl ⟨by rfl, ?hyr1_23⟩) (by assumption) ?rer1_23
  case hyr1_23 => (intro W hSw; (try dsimp only at hSw); go_simp; try with_reducible rfl)
  try simp only [Act.put, List.setIfInBounds_toArray, List.set_cons_zero, List.set_cons_succ]
  refine' wpAnyH_take (i := 24) (oi := { dst := some 29, op := Go.Op.load 2 (Go.Operand.tmp 28), type := 2, pos := "same.go:50", after := #[{ on := 23, ground := Go.Ground.data }, { on := 20, ground := Go.Ground.guard }], guard := some (20, true) }) (v := _) rfl (by kernel_rfl) (by kernel_rfl) (by kernel_rfl) (fun _ _ _ h => h) (Or.inl ⟨by rfl, ?hyr1_24⟩) (by assumption) ?rer1_24
  case hyr1_24 => (intro W hSw; (try dsimp only at hSw); go_simp; try with_reducible rfl)
  try simp only [Act.put, List.setIfInBounds_toArray, List.set_cons_zero, List.set_cons_succ]
  refine' wpAnyH_take (i := 25) (oi := { dst := some 30, op := Go.Op.move (Go.Operand.tmp 1), type := 23, pos := "same.go:50", after := #[{ on := 20, ground := Go.Ground.guard }], guard := some (20, true) }) (v := _) rfl (by kernel_rfl) (by kernel_rfl) (by kernel_rfl) (fun _ _ _ h => h) (Or.inl ⟨by rfl, ?hyr1_25⟩) (by assumption) ?rer1_25
  case hyr1_25 => (intro W hSw; (try dsimp only at hSw); go_simp; try with_reducible rfl)
  try simp only [Act.put, List.setIfInBounds_toArray, List.set_cons_zero, List.set_cons_succ]
  refine' wpAnyH_take (i := 26) (oi := { dst := some 31, op := Go.Op.nilCheck (Go.Operand.tmp 30), type := 0, pos := "same.go:50", after := #[{ on := 25, ground := Go.Ground.data }, { on := 20, ground := Go.Ground.guard }], guard := some (20, true) }) (v := _) rfl (by kernel_rfl) (by kernel_rfl) (by kernel_rfl) (fun _ _ _ h => h) (Or.inl ⟨by rfl, ?hyr1_26⟩) (by assumption) ?rer1_26
  case hyr1_26 => (intro W hSw; (try dsimp only at hSw); go_simp; try with_reducible rfl)
  try simp only [Act.put, List.setIfInBounds_toArray, List.set_cons_zero, List.set_cons_succ]
  refine' wpAnyH_take (i := 27) (oi := { dst := some 32, op := Go.Op.fieldAddr 51 (Go.Operand.tmp 31) 2, type := 0, pos := "same.go:50", after := #[{ on := 26, ground := Go.Ground.data }, { on := 20, ground := Go.Ground.guard }], guard := some (20, true) }) (v := _) rfl (by kernel_rfl) (by kernel_rfl) (by kernel_rfl) (fun _ _ _ h => h) (Or.inl ⟨by rfl, ?hyr1_27⟩) (by assumption) ?rer1_27
  case hyr1_27 => (intro W hSw; (try dsimp only at hSw); go_simp; try with_reducible rfl)
  try simp only [Act.put, List.setIfInBounds_toArray, List.set_cons_zero, List.set_cons_succ]
  refine' wpAnyH_take (i := 28) (oi := { dst := some 33, op := Go.Op.load 2 (Go.Operand.tmp 32), type := 2, pos := "same.go:50", after := #[{ on := 27, ground := Go.Ground.data }, { on := 20, ground := Go.Ground.guard }], guard := some (20, true) }) (v := _) rfl (by kernel_rfl) (by kernel_rfl) (by kernel_rfl) (fun _ _ _ h => h) (Or.inl ⟨by rfl, ?hyr1_28⟩) (by assumption) ?rer1_28
  case hyr1_28 => (intro W hSw; (try dsimp only at hSw); go_simp; try with_reducible rfl)
  try simp only [Act.put, List.setIfInBounds_toArray, List.set_cons_zero, List.set_cons_succ]
  refine' wpAnyH_take (i := 29) (oi := { dst := some 34, op := Go.Op.binOp Go.BinOp.eql 2 (Go.Operand.tmp 29) (Go.Operand.tmp 33) 2, type := 4, pos := "same.go:50", after := #[{ on := 24, ground := Go.Ground.data }, { on := 28, ground := Go.Ground.data }, { on := 20, ground := Go.Ground.guard }], guard := some (20, true) }) (v := _) rfl (by kernel_rfl) (by kernel_rfl) (by kernel_rfl) (fun _ _ _ h => h) (Or.inl ⟨by rfl, ?hyr1_29⟩) (by assumption) ?rer1_29
  case hyr1_29 => (intro W hSw; (try dsimp only at hSw); go_simp; try with_reducible rfl)
  try simp only [Act.put, List.setIfInBounds_toArray, List.set_cons_zero, List.set_cons_succ]
  refine' wpAnyH_take (i := 30) (oi := { dst := some 35, op := Go.Op.pick (Go.Operand.tmp 25) (Go.Operand.tmp 34) (Go.Operand.const (Go.Value.bool false)), type := 4, pos := "same.go:50", after := #[{ on := 20, ground := Go.Ground.data }, { on := 29, ground := Go.Ground.data }], guard := none }) (v := _) rfl (by kernel_rfl) (by kernel_rfl) (by kernel_rfl) (fun _ _ _ h => h) (Or.inl ⟨by rfl, ?hyr1_30⟩) (by assumption) ?rer1_30
  case hyr1_30 => (intro W hSw; (try dsimp only at hSw); go_simp; try with_reducible rfl)
  try simp only [Act.put, List.setIfInBounds_toArray, List.set_cons_zero, List.set_cons_succ]
  refine' wpAnyH_take (i := 31) (oi := { dst := some 36, op := Go.Op.move (Go.Operand.tmp 35), type := 4, pos := "same.go:50", after := #[{ on := 30, ground := Go.Ground.data }, { on := 20, ground := Go.Ground.chain }], guard := none }) (v := _) rfl (by kernel_rfl) (by kernel_rfl) (by kernel_rfl) (fun _ _ _ h => h) (Or.inl ⟨by rfl, ?hyr1_31⟩) (by assumption) ?rer1_31
  case hyr1_31 => (intro W hSw; (try dsimp only at hSw); go_simp; try with_reducible rfl)
  try simp only [Act.put, List.setIfInBounds_toArray, List.set_cons_zero, List.set_cons_succ]
  refine' wpAnyH_take (i := 32) (oi := { dst := some 37, op := Go.Op.move (Go.Operand.tmp 0), type := 23, pos := "same.go:50", after := #[{ on := 31, ground := Go.Ground.guard }], guard := some (31, true) }) (v := _) rfl (by kernel_rfl) (by kernel_rfl) (by kernel_rfl) (fun _ _ _ h => h) (Or.inl ⟨by rfl, ?hyr1_32⟩) (by assumption) ?rer1_32
  case hyr1_32 => (intro W hSw; (try dsimp only at hSw); go_simp; try with_reducible rfl)
  try simp only [Act.put, List.setIfInBounds_toArray, List.set_cons_zero, List.set_cons_succ]
  refine' wpAnyH_take (i := 33) (oi := { dst := some 38, op := Go.Op.nilCheck (Go.Operand.tmp 37), type := 0, pos := "same.go:50", after := #[{ on := 32, ground := Go.Ground.data }, { on := 31, ground := Go.Ground.guard }], guard := some (31, true) }) (v := _) rfl (by kernel_rfl) (by kernel_rfl) (by kernel_rfl) (fun _ _ _ h => h) (Or.inl ⟨by rfl, ?hyr1_33⟩) (by assumption) ?rer1_33
  case hyr1_33 => (intro W hSw; (try dsimp only at hSw); go_simp; try with_reducible rfl)
  try simp only [Act.put, List.setIfInBounds_toArray, List.set_cons_zero, List.set_cons_succ]
  refine' wpAnyH_take (i := 34) (oi := { dst := some 39, op := Go.Op.fieldAddr 51 (Go.Operand.tmp 38) 3, type := 0, pos := "same.go:50", after := #[{ on := 33, ground := Go.Ground.data }, { on := 31, ground := Go.Ground.guard }], guard := some (31, true) }) (v := _) rfl (by kernel_rfl) (by kernel_rfl) (by kernel_rfl) (fun _ _ _ h => h) (Or.inl ⟨by rfl, ?hyr1_34⟩) (by assumption) ?rer1_34
  case hyr1_34 => (intro W hSw; (try dsimp only at hSw); go_simp; try with_reducible rfl)
  try simp only [Act.put, List.setIfInBounds_toArray, List.set_cons_zero, List.set_cons_succ]
  refine' wpAnyH_take (i := 35) (oi := { dst := some 40, op := Go.Op.load 49 (Go.Operand.tmp 39), type := 49, pos := "same.go:50", after := #[{ on := 34, ground := Go.Ground.data }, { on := 31, ground := Go.Ground.guard }], guard := some (31, true) }) (v := _) rfl (by kernel_rfl) (by kernel_rfl) (by kernel_rfl) (fun _ _ _ h => h) (Or.inl ⟨by rfl, ?hyr1_35⟩) (by assumption) ?rer1_35
  case hyr1_35 => (intro W hSw; (try dsimp only at hSw); go_simp; try with_reducible rfl)
  try simp only [Act.put, List.setIfInBounds_toArray, List.set_cons_zero, List.set_cons_succ]
  refine' wpAnyH_take (i := 36) (oi := { dst := some 41, op := Go.Op.call { callee := Go.Callee.builtin Go.Builtin.len, args := #[Go.Operand.tmp 40], argTypes := #[49] }, type := 3, pos := "same.go:50", after := #[{ on := 35, ground := Go.Ground.data }, { on := 31, ground := Go.Ground.guard }], guard := some (31, true) }) (v := _) rfl (by kernel_rfl) (by kernel_rfl) (by kernel_rfl) (fun _ _ _ h => h) (Or.inl ⟨by rfl, ?hyr1_36⟩) (by assumption) ?rer1_36
  case hyr1_36 => (intro W hSw; (try dsimp only at hSw); go_simp; try with_reducible rfl)
  try simp only [Act.put, List.setIfInBounds_toArray, List.set_cons_zero, List.set_cons_succ]
  refine' wpAnyH_take (i := 37) (oi := { dst := some 42, op := Go.Op.move (Go.Operand.tmp 1), type := 23, pos := "same.go:50", after := #[{ on := 31, ground := Go.Ground.guard }], guard := some (31, true) }) (v := _) rfl (by kernel_rfl) (by kernel_rfl) (by kernel_rfl) (fun _ _ _ h => h) (Or.inl ⟨by rfl, ?hyr1_37⟩) (by assumption) ?rer1_37
  case hyr1_37 => (intro W hSw; (try dsimp only at hSw); go_simp; try with_reducible rfl)
  try simp only [Act.put, List.setIfInBounds_toArray, List.set_cons_zero, List.set_cons_succ]
  refine' wpAnyH_take (i := 38) (oi := { dst := some 43, op := Go.Op.nilCheck (Go.Operand.tmp 42), type := 0, pos := "same.go:50", after := #[{ on := 37, ground := Go.Ground.data }, { on := 31, ground := Go.Ground.guard }], guard := some (31, true) }) (v := _) rfl (by kernel_rfl) (by kernel_rfl) (by kernel_rfl) (fun _ _ _ h => h) (Or.inl ⟨by rfl, ?hyr1_38⟩) (by assumption) ?rer1_38
  case hyr1_38 => (intro W hSw; (try dsimp only at hSw); go_simp; try with_reducible rfl)
  try simp only [Act.put, List.setIfInBounds_toArray, List.set_cons_zero, List.set_cons_succ]
  refine' wpAnyH_take (i := 39) (oi := { dst := some 44, op := Go.Op.fieldAddr 51 (Go.Operand.tmp 43) 3, type := 0, pos := "same.go:50", after := #[{ on := 38, ground := Go.Ground.data }, { on := 31, ground := Go.Ground.guard }], guard := some (31, true) }) (v := _) rfl (by kernel_rfl) (by kernel_rfl) (by kernel_rfl) (fun _ _ _ h => h) (Or.inl ⟨by rfl, ?hyr1_39⟩) (by assumption) ?rer1_39
  case hyr1_39 => (intro W hSw; (try dsimp only at hSw); go_simp; try with_reducible rfl)
  try simp only [Act.put, List.setIfInBounds_toArray, List.set_cons_zero, List.set_cons_succ]
  refine' wpAnyH_take (i := 40) (oi := { dst := some 45, op := Go.Op.load 49 (Go.Operand.tmp 44), type := 49, pos := "same.go:50", after := #[{ on := 39, ground := Go.Ground.data }, { on := 31, ground := Go.Ground.guard }], guard := some (31, true) }) (v := _) rfl (by kernel_rfl) (by kernel_rfl) (by kernel_rfl) (fun _ _ _ h => h) (Or.inl ⟨by rfl, ?hyr1_40⟩) (by assumption) ?rer1_40
  case hyr1_40 => (intro W hSw; (try dsimp only at hSw); go_simp; try with_reducible rfl)
  try simp only [Act.put, List.setIfInBounds_toArray, List.set_cons_zero, List.set_cons_succ]
  refine' wpAnyH_take (i := 41) (oi := { dst := some 46, op := Go.Op.call { callee := Go.Callee.builtin Go.Builtin.len, args := #[Go.Operand.tmp 45], argTypes := #[49] }, type := 3, pos := "same.go:50", after := #[{ on := 40, ground := Go.Ground.data }, { on := 31, ground := Go.Ground.guard }], guard := some (31, true) }) (v := _) rfl (by kernel_rfl) (by kernel_rfl) (by kernel_rfl) (fun _ _ _ h => h) (Or.inl ⟨by rfl, ?hyr1_41⟩) (by assumption) ?rer1_41
  case hyr1_41 => (intro W hSw; (try dsimp only at hSw); go_simp; try with_reducible rfl)
  try simp only [Act.put, List.setIfInBounds_toArray, List.set_cons_zero, List.set_cons_succ]
  refine' wpAnyH_take (i := 42) (oi := { dst := some 47, op := Go.Op.binOp Go.BinOp.eql 3 (Go.Operand.tmp 41) (Go.Operand.tmp 46) 3, type := 4, pos := "same.go:50", after := #[{ on := 36, ground := Go.Ground.data }, { on := 41, ground := Go.Ground.data }, { on := 31, ground := Go.Ground.guard }], guard := some (31, true) }) (v := _) rfl (by kernel_rfl) (by kernel_rfl) (by kernel_rfl) (fun _ _ _ h => h) (Or.inl ⟨by rfl, ?hyr1_42⟩) (by assumption) ?rer1_42
  case hyr1_42 => (intro W hSw; (try dsimp only at hSw); go_simp; try with_reducible rfl)
  try simp only [Act.put, List.setIfInBounds_toArray, List.set_cons_zero, List.set_cons_succ]
  refine' wpAnyH_take (i := 43) (oi := { dst := some 48, op := Go.Op.pick (Go.Operand.tmp 36) (Go.Operand.tmp 47) (Go.Operand.const (Go.Value.bool false)), type := 4, pos := "same.go:50", after := #[{ on := 31, ground := Go.Ground.data }, { on := 42, ground := Go.Ground.data }], guard := none }) (v := _) rfl (by kernel_rfl) (by kernel_rfl) (by kernel_rfl) (fun _ _ _ h => h) (Or.inl ⟨by rfl, ?hyr1_43⟩) (by assumption) ?rer1_43
  case hyr1_43 => (intro W hSw; (try dsimp only at hSw); go_simp; try with_reducible rfl)
  try simp only [Act.put, List.setIfInBounds_toArray, List.set_cons_zero, List.set_cons_succ]
  refine' wpAnyH_take (i := 44) (oi := { dst := some 4, op := Go.Op.assign (Go.Operand.tmp 48), type := 4, pos := "same.go:50", after := #[{ on := 43, ground := Go.Ground.data }, { on := 31, ground := Go.Ground.chain }, { on := 0, ground := Go.Ground.phase }, { on := 1, ground := Go.Ground.phase }, { on := 2, ground := Go.Ground.phase }, { on := 3, ground := Go.Ground.phase }, { on := 4, ground := Go.Ground.phase }, { on := 5, ground := Go.Ground.phase }, { on := 6, ground := Go.Ground.phase }, { on := 7, ground := Go.Ground.phase }, { on := 8, ground := Go.Ground.phase }, { on := 9, ground := Go.Ground.phase }, { on := 10, ground := Go.Ground.phase }, { on := 11, ground := Go.Ground.phase }, { on := 12, ground := Go.Ground.phase }, { on := 13, ground := Go.Ground.phase }, { on := 14, ground := Go.Ground.phase }, { on := 15, ground := Go.Ground.phase }, { on := 16, ground := Go.Ground.phase }, { on := 17, ground := Go.Ground.phase }, { on := 18, ground := Go.Ground.phase }, { on := 19, ground := Go.Ground.phase }, { on := 20, ground := Go.Ground.phase }, { on := 21, ground := Go.Ground.phase }, { on := 22, ground := Go.Ground.phase }, { on := 23, ground := Go.Ground.phase }, { on := 24, ground := Go.Ground.phase }, { on := 25, ground := Go.Ground.phase }, { on := 26, ground := Go.Ground.phase }, { on := 27, ground := Go.Ground.phase }, { on := 28, ground := Go.Ground.phase }, { on := 29, ground := Go.Ground.phase }, { on := 30, ground := Go.Ground.phase }, { on := 31, ground := Go.Ground.phase }, { on := 32, ground := Go.Ground.phase }, { on := 33, ground := Go.Ground.phase }, { on := 34, ground := Go.Ground.phase }, { on := 35, ground := Go.Ground.phase }, { on := 36, ground := Go.Ground.phase }, { on := 37, ground := Go.Ground.phase }, { on := 38, ground := Go.Ground.phase }, { on := 39, ground := Go.Ground.phase }, { on := 40, ground := Go.Ground.phase }, { on := 41, ground := Go.Ground.phase }, { on := 42, ground := Go.Ground.phase }, { on := 43, ground := Go.Ground.phase }], guard := none }) (v := _) rfl (by kernel_rfl) (by kernel_rfl) (by kernel_rfl) (fun _ _ _ h => h) (Or.inl ⟨by rfl, ?hyr1_44⟩) (by assumption) ?rer1_44
  case hyr1_44 => (intro W hSw; (try dsimp only at hSw); go_simp; try with_reducible rfl)
  try simp only [Act.put, List.setIfInBounds_toArray, List.set_cons_zero, List.set_cons_succ]
  refine wpAnyH_done (by kernel_rfl) ?_ _
  refine NoPanic.normal ?_
  go_wp2_with fail
  go_ret
  exact ⟨rfl, rfl⟩
end Go.Proofs.YtmfoehaeejhlpaaGreatDoor
