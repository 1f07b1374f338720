import Derived.Test.YtfbhoemfabgjpaaGreatMgAQ
import Derived.Test.YtfbhoemfabgjpaaGreatMgAU
import Derived.Test.YtfbhoemfabgjpaaGreatMgAP
import Derived.Test.YtfbhoemfabgjpaaGreatWParts
/-
  World: a pool's numbers as those of a row.
-/
namespace Go.Proofs.YtfbhoemfabgjpaaGreat
open Go.RowKit
set_option maxRecDepth 100000
def zi (gs : List Nat) : List Int := gs.map fun n : Nat => (n : Int)
theorem zi_len (gs : List Nat) : (zi gs).length = gs.length := by simp [zi]
theorem own_ns {w : World} {v : Value} {B : Nat} {l : List Int} (h : w.ownsRow B 2 1 v l.length (zc l)) : Pak.Ns w v l := by
  rcases h.2 with ⟨rfl, hl⟩ | ⟨g, c, cur, rfl, -, hg, h1, h2, hcs, htake⟩
  · obtain rfl := List.eq_nil_of_length_eq_zero hl
    exact ⟨none, 0, rfl, Nat.le_refl _, Nat.zero_le _, fun j hj => absurd hj (by simp)⟩
  · refine ⟨_, c, rfl, h1, h2, fun j hj => ⟨g, 0, rfl, ?_⟩⟩
    rw [Nat.zero_add, h.cellAt j (by omega), zc_at l j hj]
    simp [hj]
set_option maxHeartbeats 2000000 in
theorem wide_any {w : World} {v : Value} {B : Nat} {gs : List Nat} (h : w.ownsRow B 3 1 v gs.length (ic gs)) (hl : gs.length ≤ 1000000) :
    Calls Tryz.prog 26 #[v] w fun e w' => ∃ v', e = .returned v' ∧ w'.ownsRow w.heap.size 2 1 v' gs.length (zc (zi gs)) ∧ Below w.heap.size w w' := by
  obtain ⟨i0, hi0, hz0, hz1, hz2⟩ := info_parts info2
  obtain ⟨ao, c, rfl⟩ := own_len h
  have hcap := own_cap h
  have H := hide h
  clear h
  go_enter Tryz.func26, Tryz.ntmps26
  go_wp2_with (at_make; refine wpList_make_full _ rfl _ _ 35 rfl w.heap.size 2 i0 (.int .i64 0) 1 Tryz.underlying35 hi0 hz0 hz1 .i64 .i64 _ _ gs.length rfl rfl ?c1 ?c2 ?c3 ?c4 ?c5 ?_)
  case c1 => omega
  case c2 => omega
  case c3 => rw [hz2]; omega
  case c4 => unfold maxLen; omega
  case c5 => omega
  intro w1 hown hgrow
  rw [toList_madeCells_one] at hown
  have HB1 : Hid (Below w.heap.size w w1) := (Below.refl _ _).grown hgrow (Nat.le_refl _) (by intro k hk; cases hk)
  have HO1 : Hid (w1.ownsRow w.heap.size 2 1 (.slice (some ⟨w.heap.size, 0, none⟩) gs.length gs.length) gs.length (zc ((zi gs).take 0 ++ List.replicate (gs.length - 0) 0))) := by
    have e : zc ((zi gs).take 0 ++ List.replicate (gs.length - 0) 0) = List.replicate gs.length (.int .i64 0) := by simp [zc]
    rw [e]
    exact hown
  clear hown hgrow
  obtain ⟨ko, hko⟩ : ∃ k, k = w.heap.size := ⟨_, rfl⟩
  rw [← hko] at HO1 ⊢
  have HK : Hid (w.heap.size ≤ ko) := by unfold Hid; omega
  rw [hko] at HO1
  rw [show (Value.slice (some ⟨w.heap.size, 0, none⟩) gs.length gs.length) = .slice (some ⟨ko, 0, none⟩) gs.length gs.length by rw [hko]] at HO1
  clear hko
  go_wp2_with fail
  go_loopw [11] (fun v11 W => ∃ j : Nat, j ≤ gs.length ∧ v11 = .int .i64 (j : Int) ∧ Hid (W.ownsRow w.heap.size 2 1 (.slice (some ⟨ko, 0, none⟩) gs.length gs.length) gs.length (zc ((zi gs).take j ++ List.replicate (gs.length - j) 0))) ∧ Hid (Below w.heap.size w W)) (fun v11 _ => gs.length - (intOf v11).toNat)
  case atStart => exact ⟨0, Nat.zero_le _, rfl, HO1, HB1⟩
  case round =>
    obtain ⟨j, hjl, rfl, HR, HB⟩ := hrel
    by_cases hj : j < gs.length
    · have t1 : (j : Int) < (gs.length : Int) := by omega
      obtain ⟨g, c', e', -, -⟩ := own_form H.out (by omega)
      simp only [Value.slice.injEq] at e'
      obtain ⟨rfl, -, rfl⟩ := e'
      have e1 := own_int (own_later H.out HB.out) j hj
      have eo : wr.cell? ⟨ko, j, none⟩ = some (.int .i64 0) := by
        rw [HR.out.cellAt j (by omega)]
        exact fill_at _ _ _ (zi_len _) hj
      have ef := HR.out.frozenAt j
      have hx : (zi gs)[j]? = some ((gs[j] : Nat) : Int) := by simp [zi, hj]
      have hst := (HR.out.stored j (.int .i64 ((gs[j] : Nat) : Int))).1
      rw [zc_set, fill_set _ _ _ _ (zi_len _) hj hx] at hst
      generalize ((gs[j] : Nat) : Int) = x at *
      have HST := hide hst
      have HB2 : Hid (Below w.heap.size w (wr.setCell ⟨ko, j, none⟩ (.int .i64 x))) := below_set HB.out HK.out
      clear hst hx
      go_wp2_with fail
      go_roundw
      case rel => exact ⟨j + 1, by omega, by go_num, HST, HB2⟩
      case measure => simp [intOf]; omega
    · obtain rfl : j = gs.length := by omega
      have t1 : ¬ (gs.length : Int) < (gs.length : Int) := by omega
      have hfin : (zc ((zi gs).take gs.length ++ List.replicate (gs.length - gs.length) 0)) = zc (zi gs) := by
        rw [List.take_of_length_le (by rw [zi_len]; exact Nat.le_refl _)]
        simp
      have hr := HR.out
      rw [hfin] at hr
      have HRF := hide hr
      clear hr hfin HR
      go_wp2_with fail
      go_ret
      exact ⟨_, rfl, HRF.out, HB.out⟩
end Go.Proofs.YtfbhoemfabgjpaaGreat

/-
  World: what Snapshot writes of one.
-/
namespace Go.Proofs.YtfbhoemfabgjpaaGreat
open Go.RowKit
set_option maxRecDepth 100000
/-- What is written of parts. -/
def valB (l : List Int) : List UInt8 := l.flatMap Pak.Rw.ivar
def wrB (s : Nat) (R : List (Nat × List Int)) : List UInt8 := Lib.uvarint s ++ R.flatMap (fun r => valB r.2)
theorem bs_own {w : World} {v : Value} {B n : Nat} {l : List UInt8} (h : w.ownsRow B 5 1 v n (Lib.byteCells l)) (hn : n = l.length) : Pak.Bs w v l := by
  subst hn
  rcases h.2 with ⟨rfl, hl⟩ | ⟨g, c, cur, rfl, -, hg, h1, h2, hcs, htake⟩
  · obtain rfl := List.eq_nil_of_length_eq_zero hl
    exact Pak.Bs.nil w
  · refine ⟨_, c, rfl, h1, h2, fun j hj => ⟨g, 0, rfl, ?_⟩⟩
    rw [Nat.zero_add, h.cellAt j (by omega)]
    simp [Lib.byteCells, hj]
theorem own_slice {w : World} {B e s n : Nat} {v : Value} {xs : List Value} (h : w.ownsRow B e s v n xs) : ∃ a m c, v = .slice a m c := by
  obtain ⟨a, c, e⟩ := own_len h
  exact ⟨a, n, c, e⟩
theorem val_len {l : List Int} (h : Pak.Rw.AllFit l) : (valB l).length ≤ 10 * l.length := by
  induction l with
  | nil => simp [valB]
  | cons z t ih =>
    have h1 := Pak.Rw.ivar_length (h z (by simp))
    have h2 := ih (fun x hx => h x (List.mem_cons_of_mem _ hx))
    simp only [valB, List.flatMap_cons, List.length_append, List.length_cons] at h2 ⊢
    omega
theorem val_push (l : List Int) (i : Nat) (hi : i < l.length) : valB (l.take (i + 1)) = valB (l.take i) ++ Pak.Rw.ivar l[i] := by
  rw [List.take_succ_eq_append_getElem hi, valB, List.flatMap_append, List.flatMap_singleton]
  rfl
theorem fm_push (R : List (Nat × List Int)) (i : Nat) (hi : i < R.length) : (R.take (i + 1)).flatMap (fun r => valB r.2) = (R.take i).flatMap (fun r => valB r.2) ++ valB R[i].2 := by
  rw [List.take_succ_eq_append_getElem hi, List.flatMap_append, List.flatMap_singleton]
theorem flat_len {R : List (Nat × List Int)} (h : ∀ r ∈ R, Pak.Rw.AllFit r.2 ∧ r.2.length ≤ 100) : (R.flatMap (fun r => valB r.2)).length ≤ 1000 * R.length := by
  induction R with
  | nil => simp
  | cons r t ih =>
    have h1 := val_len (h r (by simp)).1
    have h2 := (h r (by simp)).2
    have h3 := ih (fun x hx => h x (List.mem_cons_of_mem _ hx))
    simp only [List.flatMap_cons, List.length_append, List.length_cons] at h3 ⊢
    omega
theorem wr_len {s : Nat} (hs : s < 8192) {R : List (Nat × List Int)} (h : ∀ r ∈ R, Pak.Rw.AllFit r.2 ∧ r.2.length ≤ 100) : (wrB s R).length ≤ 10 + 1000 * R.length := by
  have h1 := flat_len h
  have h2 := Lib.uvarint_length64 (show s < 18446744073709551616 by omega)
  unfold wrB
  rw [List.length_append]
  omega
section
variable {w w' : World} {own : Nat → Nat} {gw gp gm gt M M' : Nat} {vk : Value} {ks : List Kind} {gs fr gs' fr' : List Nat} {f f' : Int × Int → Option Nat} {q q' : Nat → Option Nat} {T T' : Nat → Ts}
set_option maxHeartbeats 8000000 in
theorem written_any (h : Wx 0 w own gw vk gp gm gt M ks gs fr f q T) (a b : Int) (hib : InB (a, b)) (s : Nat) (hf : f (a, b) = some s) (hs : s < 8192) (B : Nat) (ap : Option Addr) (np cp : Nat) (L : List Pt) (R : List (Nat × List Int)) (hL : w.ownsRow B 51 2 (.slice ap np cp) L.length (pz L)) (hP : Pv B w L R) (hfit : ∀ r ∈ R, Pak.Rw.AllFit r.2 ∧ r.2.length ≤ 100) (hn : R.length ≤ 100) :
    Calls Tryz.prog 28 #[.pointer (some ⟨gw, 0, none⟩), .agg #[.int .i64 a, .int .i64 b, .slice ap np cp]] w fun e w' => ∃ v, e = .returned v ∧ w'.ownsRow w.heap.size 5 1 v (wrB s R).length (Lib.byteCells (wrB s R)) ∧ Below w.heap.size w w' := by
  obtain rfl : np = L.length := by
    obtain ⟨x, y, e⟩ := own_len hL
    simp only [Value.slice.injEq] at e
    exact e.2.1
  have hcp := own_cap hL
  obtain ⟨w1, hw1⟩ : ∃ X, X = w.alloc (.cells #[.int .i64 a, .int .i64 b, .slice ap L.length cp] 87) := ⟨_, rfl⟩
  have B1 : Hid (Below w.heap.size w w1) := hw1 ▸ below_alloc w _
  have hx1 : w1.heap[w.heap.size]? = some (.cells #[.int .i64 a, .int .i64 b, .slice ap L.length cp] 87 (0, 0)) := by rw [hw1]; exact heap_alloc_new w _
  have HW : Hid (∀ W, Below w1.heap.size w1 W → (Instr.lookup 61 (.map (some gm)) (.agg #[.int .i64 a, .int .i64 b]) false).run Tryz.prog W = .ok (.int .i64 (s : Int)) W ∧ W.cell? ⟨gw, 2, none⟩ = some (.map (some gm)) ∧ W.cell? ⟨w.heap.size, 0, none⟩ = some (.int .i64 a) ∧ W.cell? ⟨w.heap.size, 1, none⟩ = some (.int .i64 b) ∧ W.cell? ⟨w.heap.size, 2, none⟩ = some (.slice ap L.length cp)) := fun W hW => by
    have hx := h.later (below_on B1.out hW)
    have h5 := (hW.block _ (lt_of_block hx1)).trans hx1
    refine ⟨hx.mp.look1 a b hib hf, hx.cells.2.2.1, ?_, ?_, ?_⟩ <;> rw [cell_of_row W _ _ _ 87 (0, 0) h5] <;> rfl
  have hu : IntKind.u64.wrap (s : Int) = (s : Int) := by rw [IntKind.wrap_u64]; omega
  have J2 := hide (Pak.put_any (.slice none 0 0) [] s w1.drew (Pak.Bs.nil _) (by omega) (by simp))
  have HL := hide hL
  have HP := hide hP
  have HF := hide hfit
  clear h hf hx1 hL hP hfit
  go_enter Tryz.func28, Tryz.ntmps28
  go_upto_region 1 with fail
  rw [← hw1]
  obtain ⟨kx, hkx⟩ : ∃ k, k = w.heap.size := ⟨_, rfl⟩
  rw [← hkx] at HW ⊢
  clear hkx hw1
  obtain ⟨hlk, c2, p0, p1, p2⟩ := HW.out w1.drew (below_drew w1)
  refine wp_region_noPanic ?_
  refine wp_region_late (J := fun i => i != 99) (S := fun W => W.cell? ⟨gw, 2, none⟩ = some (.map (some gm)) ∧ W.cell? ⟨kx, 0, none⟩ = some (.int .i64 a) ∧ W.cell? ⟨kx, 1, none⟩ = some (.int .i64 b)) (by kernel_rfl) ⟨c2, p0, p1⟩ (fun hHeld => ?_)
  refine' wpAnyJ_takeW (i := 0) (oi := { dst := some 10, op := Op.move (Operand.tmp 0), type := 26, pos := "snapshot.go:49", after := #[], guard := none }) (v := _) rfl (by kernel_rfl) (by kernel_rfl) (by kernel_rfl) (fun _ _ _ h => h) (Or.inl ⟨by rfl, ?hyA1⟩) ?reA1
  case hyA1 => (intro W hSw; (try dsimp only at hSw); go_simp; try with_reducible rfl)
  try simp only [Act.put, List.setIfInBounds_toArray, List.set_cons_zero, List.set_cons_succ]
  refine' wpAnyJ_takeW (i := 1) (oi := { dst := some 11, op := Op.nilCheck (Operand.tmp 10), type := 0, pos := "snapshot.go:49", after := #[{ on := 0, ground := Ground.data }], guard := none }) (v := _) rfl (by kernel_rfl) (by kernel_rfl) (by kernel_rfl) (fun _ _ _ h => h) (Or.inl ⟨by rfl, ?hyA2⟩) ?reA2
  case hyA2 => (intro W hSw; (try dsimp only at hSw); go_simp; try with_reducible rfl)
  try simp only [Act.put, List.setIfInBounds_toArray, List.set_cons_zero, List.set_cons_succ]
  refine' wpAnyJ_takeW (i := 2) (oi := { dst := some 12, op := Op.fieldAddr 64 (Operand.tmp 11) 2, type := 0, pos := "snapshot.go:49", after := #[{ on := 1, ground := Ground.data }], guard := none }) (v := _) rfl (by kernel_rfl) (by kernel_rfl) (by kernel_rfl) (fun _ _ _ h => h) (Or.inl ⟨by rfl, ?hyA3⟩) ?reA3
  case hyA3 => (intro W hSw; (try dsimp only at hSw); go_simp; try with_reducible rfl)
  try simp only [Act.put, List.setIfInBounds_toArray, List.set_cons_zero, List.set_cons_succ]
  refine' wpAnyJ_take (i := 3) (oi := { dst := some 13, op := Op.load 61 (Operand.tmp 12), type := 61, pos := "snapshot.go:49", after := #[{ on := 2, ground := Ground.data }], guard := none }) (v := _) rfl (by kernel_rfl) (by kernel_rfl) (by kernel_rfl) (by kernel_rfl) (fun _ _ _ h => h) (Or.inl ⟨by rfl, ?hyA4⟩) (by assumption) ?reA4
  case hyA4 => (intro W hSw; (try dsimp only at hSw); go_simp; try with_reducible rfl)
  try simp only [Act.put, List.setIfInBounds_toArray, List.set_cons_zero, List.set_cons_succ]
  refine' wpAnyJ_takeW (i := 4) (oi := { dst := some 14, op := Op.fieldAddr 87 (Operand.tmp 3) 0, type := 0, pos := "snapshot.go:49", after := #[], guard := none }) (v := _) rfl (by kernel_rfl) (by kernel_rfl) (by kernel_rfl) (fun _ _ _ h => h) (Or.inl ⟨by rfl, ?hyA5⟩) ?reA5
  case hyA5 => (intro W hSw; (try dsimp only at hSw); go_simp; try with_reducible rfl)
  try simp only [Act.put, List.setIfInBounds_toArray, List.set_cons_zero, List.set_cons_succ]
  refine' wpAnyJ_take (i := 5) (oi := { dst := some 15, op := Op.load 34 (Operand.tmp 14), type := 34, pos := "snapshot.go:49", after := #[{ on := 4, ground := Ground.data }], guard := none }) (v := _) rfl (by kernel_rfl) (by kernel_rfl) (by kernel_rfl) (by kernel_rfl) (fun _ _ _ h => h) (Or.inl ⟨by rfl, ?hyA6⟩) (by assumption) ?reA6
  case hyA6 => (intro W hSw; (try dsimp only at hSw); go_simp; try with_reducible rfl)
  try simp only [Act.put, List.setIfInBounds_toArray, List.set_cons_zero, List.set_cons_succ]
  refine wpAnyJ_ready (rs := [6]) (by kernel_rfl) (by simp) ?_
  refine AllReadyJ.cons (o := { dst := some 16, op := Op.lookup 61 (Operand.tmp 13) (Operand.tmp 15) false, type := 3, pos := "snapshot.go:49", after := #[{ on := 3, ground := Ground.data }, { on := 5, ground := Ground.data }], guard := none }) rfl (fun K hK => ?_) AllReadyJ.nil
  go_simp
  refine hK.out _ _ (fun _ _ => ⟨c2, p0, p1⟩) ?_
  clear hK K
  try simp only [Act.put, List.setIfInBounds_toArray, List.set_cons_zero, List.set_cons_succ]
  refine' wpAnyJ_takeW (i := 7) (oi := { dst := some 17, op := Op.convert 3 113 (Operand.tmp 16), type := 113, pos := "snapshot.go:49", after := #[{ on := 6, ground := Ground.data }], guard := none }) (v := _) rfl (by kernel_rfl) (by kernel_rfl) (by kernel_rfl) (fun _ _ _ h => h) (Or.inl ⟨by rfl, ?hyA7⟩) ?reA7
  case hyA7 => (intro W hSw; (try dsimp only at hSw); go_simp; try with_reducible rfl)
  try simp only [Act.put, List.setIfInBounds_toArray, List.set_cons_zero, List.set_cons_succ]
  refine wpAnyJ_ready (rs := [8]) (by kernel_rfl) (by simp) ?_
  refine AllReadyJ.cons (o := { dst := some 18, op := Op.call { callee := Callee.value (Operand.func 46), args := #[Operand.const (Value.slice none 0 0), Operand.tmp 17], argTypes := #[47, 113] }, type := 47, pos := "snapshot.go:49", after := #[{ on := 7, ground := Ground.data }], guard := none }) rfl (fun K hK => ?_) AllReadyJ.nil
  go_simp
  go_at_call 46
  refine J2.out.mono ?_
  rintro e w5 ⟨v5, rfl, ho5, hb5⟩
  have HB5 := hide (below_on (below_drew w1) hb5)
  obtain ⟨-, y2, y3, y4, y5⟩ := HW.out w5 HB5.out
  obtain ⟨a5, n5, c5, rfl⟩ := own_slice ho5
  have HO5 : Hid (w5.ownsRow w.heap.size 5 1 (.slice a5 n5 c5) (wrB s (R.take 0)).length (Lib.byteCells (wrB s (R.take 0)))) := by
      have := own_lower ho5 (show w.heap.size ≤ w1.drew.heap.size from B1.out.size)
      unfold Hid
      simpa [wrB] using this
  clear ho5 hb5
  go_simp
  refine hK.out _ _ (fun _ _ => ⟨y2, y3, y4⟩) ?_
  clear hK K J2
  try simp only [Act.put, List.setIfInBounds_toArray, List.set_cons_zero, List.set_cons_succ]
  refine' wpAnyJ_takeW (i := 9) (oi := { dst := some 5, op := Op.assign (Operand.tmp 18), type := 47, pos := "snapshot.go:49", after := #[{ on := 8, ground := Ground.data }, { on := 8, ground := Ground.chain }, { on := 0, ground := Ground.phase }, { on := 1, ground := Ground.phase }, { on := 2, ground := Ground.phase }, { on := 3, ground := Ground.phase }, { on := 4, ground := Ground.phase }, { on := 5, ground := Ground.phase }, { on := 6, ground := Ground.phase }, { on := 7, ground := Ground.phase }, { on := 8, ground := Ground.phase }], guard := none }) (v := _) rfl (by kernel_rfl) (by kernel_rfl) (by kernel_rfl) (fun _ _ _ h => h) (Or.inl ⟨by rfl, ?hyA8⟩) ?reA8
  case hyA8 => (intro W hSw; (try dsimp only at hSw); go_simp; try with_reducible rfl)
  try simp only [Act.put, List.setIfInBounds_toArray, List.set_cons_zero, List.set_cons_succ]
  refine wpAnyJ_done (by kernel_rfl) ?_ _
  refine NoPanic.normal ?_
  clear hlk c2 p0 p1 p2 y2 y3 y4
  have XL : Hid (∀ W, Below w1.heap.size w1 W → W.ownsRow B 51 2 (.slice ap L.length cp) L.length (pz L) ∧ Pv B W L R) := fun W hW => ⟨own_later HL.out (below_on B1.out hW), HP.out.later (below_on B1.out hW)⟩
  have hLR : L.length = R.length := HP.out.1
  have HLR := hide hLR
  clear hLR HL HP hu hib
  go_wp2_with fail
  clear y5
  go_loopw [5, 22] (fun v5 v22 W => ∃ i : Nat, i ≤ L.length ∧ v22 = .int .i64 (i : Int) ∧ Hid (W.ownsRow w.heap.size 5 1 v5 (wrB s (R.take i)).length (Lib.byteCells (wrB s (R.take i)))) ∧ Hid (Below w1.heap.size w1 W)) (fun _ v22 _ => L.length - (intOf v22).toNat)
  case atStart => exact ⟨0, Nat.zero_le _, rfl, HO5, HB5⟩
  case round =>
    obtain ⟨i, hil, rfl, HO, HB⟩ := hrel
    obtain ⟨wo, rfl⟩ : ∃ X, X = wr := ⟨wr, rfl⟩
    by_cases hlt : i < L.length
    · have t1 : (i : Int) < (L.length : Int) := by omega
      have hRi : i < R.length := by have := HLR.out; omega
      obtain ⟨hl1, hl2⟩ := XL.out wo HB.out
      obtain ⟨g, c', e', -, -⟩ := own_form hl1 (by omega)
      simp only [Value.slice.injEq] at e'
      obtain ⟨rfl, -, rfl⟩ := e'
      obtain ⟨e1, e2⟩ := own_part hl1 i hlt
      obtain ⟨k1, k2⟩ := hl2.2 i hlt hRi
      have hfi := HF.out _ (List.getElem_mem hRi)
      have hfp := fm_push R i hRi
      have hlen : (wrB s (R.take i)).length ≤ 10 + 1000 * 100 := by
        have := wr_len hs (R := R.take i) (fun r hr => HF.out r (List.mem_of_mem_take hr))
        have : (R.take i).length ≤ 100 := by rw [List.length_take]; omega
        omega
      have HNX : Hid (wrB s (R.take (i + 1)) = wrB s (R.take i) ++ valB R[i].2) := by
        unfold wrB Hid
        rw [hfp, List.append_assoc]
      generalize wrB s (R.take i) = b0 at *
      generalize R[i].2 = vs at *
      generalize L[i] = p at *
      obtain ⟨kd, av, nv, cv⟩ := p
      obtain ⟨x1, x2, x3⟩ := own_len k2
      simp only [ptV, Value.slice.injEq] at x3
      obtain ⟨rfl, rfl, rfl⟩ := x3
      simp only [ptV] at e1 e2 k2
      have hcv := own_cap k2
      have HV := hide k2
      have HFI := hide hfi
      have hvl : vs.length ≤ 100 := hfi.2
      obtain ⟨a0, n0, c0, rfl⟩ := own_slice HO.out
      obtain ⟨wp, hwp⟩ : ∃ X, X = wo.alloc (.cells #[.int .i64 kd, .slice av vs.length cv] 51) := ⟨_, rfl⟩
      have BP : Hid (Below wo.heap.size wo wp) := hwp ▸ below_alloc wo _
      have HOP : Hid (wp.ownsRow w.heap.size 5 1 (.slice a0 n0 c0) (b0 ++ valB (vs.take 0)).length (Lib.byteCells (b0 ++ valB (vs.take 0)))) := by
        have := own_later HO.out BP.out
        unfold Hid
        simpa [valB] using this
      clear hl1 hl2 k1 k2 hfi hfp HO
      go_wp2_with fail
      rw [← hwp]
      clear hwp e1 e2
      go_loopw [5, 29] (fun v5 v29 W => ∃ j : Nat, j ≤ vs.length ∧ v29 = .int .i64 (j : Int) ∧ Hid (W.ownsRow w.heap.size 5 1 v5 (b0 ++ valB (vs.take j)).length (Lib.byteCells (b0 ++ valB (vs.take j)))) ∧ Hid (Below wo.heap.size wo W)) (fun _ v29 _ => vs.length - (intOf v29).toNat)
      case atStart => exact ⟨0, Nat.zero_le _, rfl, HOP, BP⟩
      case round =>
        obtain ⟨j, hjl, rfl, HOJ, HBJ⟩ := hrel
        by_cases hj : j < vs.length
        · have t2 : (j : Int) < (vs.length : Int) := by omega
          obtain ⟨gv, c'', e'', -, -⟩ := own_form HV.out (by omega)
          simp only [Value.slice.injEq] at e''
          obtain ⟨rfl, -, rfl⟩ := e''
          have e3 := own_num (own_later HV.out HBJ.out) j hj
          have hfz := HFI.out.1 _ (List.getElem_mem hj)
          have hpush := val_push vs j hj
          have hln : (b0 ++ valB (vs.take j)).length + 20 ≤ 140737488355328 := by
            have := val_len (l := vs.take j) (fun z hz => HFI.out.1 z (List.mem_of_mem_take hz))
            have : (vs.take j).length ≤ 100 := by rw [List.length_take]; omega
            rw [List.length_append]
            omega
          generalize vs[j] = z at *
          have HPU : Hid (b0 ++ valB (vs.take (j + 1)) = (b0 ++ valB (vs.take j)) ++ Lib.uvarint (Lib.zigzag z)) := by
            unfold Hid
            rw [hpush, List.append_assoc]
            rfl
          obtain ⟨a1, n1, c1, rfl⟩ := own_slice HOJ.out
          have JI := hide (Pak.putInt_any _ _ z wr (bs_own HOJ.out rfl) hfz.1 hfz.2 hln)
          have HSJ : Hid (w.heap.size ≤ wr.heap.size) := (below_on B1.out (below_on HB.out HBJ.out)).size
          generalize b0 ++ valB (vs.take j) = bj at *
          clear hfz hpush hln
          go_wp2_with fail
          refine JI.out.mono ?_
          rintro e w7 ⟨v7, rfl, ho7, hb7⟩
          have HO7 : Hid (w7.ownsRow w.heap.size 5 1 v7 (b0 ++ valB (vs.take (j + 1))).length (Lib.byteCells (b0 ++ valB (vs.take (j + 1))))) := by
            rw [HPU.out, List.length_append]
            exact own_lower ho7 HSJ.out
          have HB7 := hide (below_on HBJ.out hb7)
          clear ho7 hb7 JI
          obtain ⟨a7, n7, c7, rfl⟩ := own_slice HO7.out
          go_wp2_with fail
          go_roundw
          case rel => exact ⟨j + 1, by omega, by go_num, HO7, HB7⟩
          case measure => simp [intOf]; omega
        · obtain rfl : j = vs.length := by omega
          have t2 : ¬ (vs.length : Int) < (vs.length : Int) := by omega
          have ho := HOJ.out
          rw [List.take_length, ← HNX.out] at ho
          have HO9 := hide ho
          clear ho HOJ
          obtain ⟨a9, n9, c9, rfl⟩ := own_slice HO9.out
          have HB9 := hide (below_on HB.out HBJ.out)
          go_wp2_with fail
          go_roundw
          case rel => exact ⟨i + 1, by omega, by go_num, HO9, HB9⟩
          case measure => simp [intOf]; omega
    · obtain rfl : i = L.length := by omega
      have t1 : ¬ (L.length : Int) < (L.length : Int) := by omega
      have ho := HO.out
      rw [HLR.out, List.take_length] at ho
      have HO9 := hide ho
      have HB9 := hide (below_on B1.out HB.out)
      clear ho HO
      obtain ⟨a9, n9, c9, rfl⟩ := own_slice HO9.out
      go_wp2_with fail
      go_ret
      exact ⟨_, rfl, HO9.out, HB9.out⟩
end
end Go.Proofs.YtfbhoemfabgjpaaGreat

/-
  World: parts are put: what the world is then.
-/
namespace Go.Proofs.YtfbhoemfabgjpaaGreat
open Go.RowKit
set_option maxRecDepth 100000
/-- Parts that may stand together. -/
def Pg (ks : List Kind) (l : List Pt) : Prop := (∀ p ∈ l, 1 ≤ p.1 ∧ p.1 ≤ (ks.length : Int) ∧ p.2.2.1 = (ks.getD (p.1.toNat - 1) (ByteArray.empty, [])).2.length) ∧ (l.map (fun p => p.1.toNat - 1)).Nodup
theorem come_pg {ks : List Kind} {l : List Pt} {s : Nat} (h : comeL ks s l = 0) : Pg ks l := by
  obtain ⟨h1, h2, -⟩ := come_all ks l s h
  exact ⟨fun p hp => ⟨(h1 p hp).1, (h1 p hp).2.1, (h1 p hp).2.2.2⟩, h2⟩
theorem pg_come {ks : List Kind} : ∀ (l : List Pt) (s : Nat), Pg ks l → (∀ p ∈ l, s.testBit p.1.toNat = false) → comeL ks s l = 0
  | [], _, _, _ => rfl
  | p :: t, s, h, hs => by
    obtain ⟨h1, h2⟩ := h
    rw [List.map_cons, List.nodup_cons] at h2
    obtain ⟨a1, a2, a3⟩ := h1 p (by simp)
    have e : comeS ks s p.1 p.2.2.1 = 0 := by
      unfold comeS
      rw [if_pos ⟨a1, a2⟩, if_neg (by rw [hs p (by simp)]; simp), if_pos a3]
    unfold comeL
    rw [if_pos e]
    refine pg_come t _ ⟨fun x hx => h1 x (List.mem_cons_of_mem _ hx), h2.2⟩ (fun x hx => ?_)
    rw [bit_or, hs x (List.mem_cons_of_mem _ hx), Bool.false_or, decide_eq_false_iff_not]
    intro e
    have := h1 x (List.mem_cons_of_mem _ hx)
    exact h2.1 (List.mem_map.2 ⟨x, hx, by omega⟩)
theorem Pg.facts {ks : List Kind} {l : List Pt} (h : Pg ks l) (hk : ks.length ≤ 12) : l.length ≤ 12 ∧ (∀ p ∈ l, 1 ≤ p.1 ∧ p.1 ≤ 12) ∧ fsum ks (setOf l) 1 = nvals l ∧ Sb ks (setOf l) ∧ setOf l < 8192 := by
  have hc := pg_come l 0 h (fun p _ => by simp)
  obtain ⟨h1, h2, h3⟩ := come_twelve hc hk
  exact ⟨h1, h2, h3, come_sb hc, setOf_lt l h2⟩
theorem Iz.one {w : World} {v : Value} {l l' : List Int} (h : Iz w v l) (h' : Iz w v l') : l = l' := by
  obtain ⟨ao, c, rfl, h1, h2, h3⟩ := h
  obtain ⟨ao', c', e, h1', h2', h3'⟩ := h'
  simp only [Value.slice.injEq] at e
  obtain ⟨rfl, hl, rfl⟩ := e
  refine List.ext_getElem hl (fun i i1 i2 => ?_)
  obtain ⟨g, o, e1, e2⟩ := h3 i i1
  obtain ⟨g', o', e1', e2'⟩ := h3' i i2
  rw [e1] at e1'
  simp only [Option.some.injEq, Addr.mk.injEq, and_true] at e1'
  obtain ⟨rfl, rfl⟩ := e1'
  rw [e2] at e2'
  simpa using e2'
open Classical in
noncomputable def valsOf (w : World) (v : Value) : List Int := if h : ∃ l, Iz w v l then h.choose else []
theorem Iz.vals {w : World} {v : Value} {l : List Int} (h : Iz w v l) : valsOf w v = l := by
  unfold valsOf
  rw [dif_pos ⟨l, h⟩]
  exact Iz.one (Exists.choose_spec (⟨l, h⟩ : ∃ l, Iz w v l)) h
section
variable {w w' : World} {own : Nat → Nat} {gw gp gm gt M M' : Nat} {vk : Value} {ks : List Kind} {gs fr gs' fr' : List Nat} {f f' : Int × Int → Option Nat} {q q' : Nat → Option Nat} {T T' : Nat → Ts}
/-- What is told of the parts that were put. -/
theorem put_told {l l' : List Pt} {V : Pt → List Int} (hg : Pg ks l) (hk : ks.length ≤ 12) (hV : ∀ p ∈ l, (V p).length = p.2.2.1) (hp : l'.Perm l) (hs : l'.Pairwise (fun x y => x.1 ≤ y.1)) :
    (l'.flatMap V).length = fsum ks (setOf l) 1 ∧ partsL ks (setOf l) 1 (l'.flatMap V) = l'.map (fun p => (p.1.toNat, V p)) := by
  obtain ⟨f1, f2, f3, f4, f5⟩ := hg.facts hk
  have hm : ∀ p, p ∈ l' ↔ p ∈ l := fun p => hp.mem_iff
  have hlt : l'.Pairwise (fun x y => x.1 < y.1) := by
    have hn : (l'.map (fun p => p.1.toNat - 1)).Nodup := (hp.map _).nodup_iff.2 hg.2
    have hn2 := List.pairwise_map.1 hn
    refine List.Pairwise.imp_of_mem (fun {a b} ha hb h => ?_) (hs.and hn2)
    have a1 := hg.1 a ((hm a).1 ha)
    have b1 := hg.1 b ((hm b).1 hb)
    have := h.1
    have := h.2
    omega
  refine ⟨?_, ?_⟩
  · rw [f3, nvals_flat l' (fun p hp => hV p ((hm p).1 hp))]
    have : (l'.flatMap V).length = (l.flatMap V).length := (hp.flatMap_right V).length_eq
    rw [nvals_flat l' (fun p hp => hV p ((hm p).1 hp)), nvals_flat l hV] at this
    exact this
  · refine parts_of V ks (setOf l) 1 l' (fun p hp' => ?_) hlt (fun k k1 k2 => ?_)
    · have := hg.1 p ((hm p).1 hp')
      refine ⟨this.1, by omega, (hV p ((hm p).1 hp')).trans this.2.2⟩
    · rw [setOf_bit, List.any_eq_true]
      constructor
      · rintro ⟨p, hp', e⟩
        exact ⟨p, (hm p).2 hp', beq_iff_eq.1 e⟩
      · rintro ⟨p, hp', e⟩
        exact ⟨p, (hm p).1 hp', beq_iff_eq.2 e⟩
theorem put_parts (h : Wx 0 w own gw vk gp gm gt M ks gs fr f q T) (hw : Wi ks f q T) (hks : ks.length ≤ 12) (hk4 : ∀ x ∈ ks, x.2.length ≤ 4) (a b : Int) (hib : InB (a, b)) (hfn : f (a, b) = none) (hcnt : ∀ E : List (Int × Int), E.Nodup → (∀ e ∈ E, (f e).isSome = true) → E.length < 200) (hM : M ≤ 900000) (v : Value) (l : List Pt) (V : Pt → List Int) (hv : Rp w v l) (hg : Pg ks l) (hV : ∀ p ∈ l, Iz w (ptV p) (V p) ∧ (p.2.1 = none → p.2.2 = (0, 0))) :
    Calls Tryz.prog 67 #[.pointer (some ⟨gw, 0, none⟩), .agg #[.int .i64 a, .int .i64 b], v] w fun e w' => e = .returned (.tuple #[]) ∧ ∃ (vals : List Int) (g : Nat) (own' : Nat → Nat), Wx 0 w' own' gw vk gp gm gt (M + 3) ks gs fr (fun x => if x = (a, b) then some (setOf l) else f x) (fun x => if x = setOf l then some g else q x) (moreT q T (setOf l) (a, b) vals) ∧ Wk own own' w w' ∧ Wi ks (fun x => if x = (a, b) then some (setOf l) else f x) (fun x => if x = setOf l then some g else q x) (moreT q T (setOf l) (a, b) vals) ∧ vals.length = fsum ks (setOf l) 1 ∧ ∀ r, r ∈ partsL ks (setOf l) 1 vals ↔ ∃ p ∈ l, r = (p.1.toNat, V p) := by
  obtain ⟨f1, f2, f3, f4, f5⟩ := hg.facts hks
  have hVl : ∀ p ∈ l, (V p).length = p.2.2.1 := fun p hp => by
    obtain ⟨ao, c, e, -⟩ := (hV p hp).1
    simp only [ptV, Value.slice.injEq] at e
    exact e.2.1.symm
  have hl := nvals_flat l hVl
  have h48 := fsum_le ks (setOf l) 1 hk4
  refine (put_any h a b hib v l V hv f1 hV f2 (by omega) hM (fun g hg' => ?_)).mono ?_
  · obtain ⟨k1, k2, k3, k4, k5, k6⟩ := hw.2 _ g hg'
    refine ⟨fun hm => ?_, hcnt _ k3 (fun e he => by rw [k4 e he]; rfl), by rw [k2, hl, f3]⟩
    have := k4 _ hm
    rw [hfn] at this
    cases this
  · rintro e w' ⟨rfl, l', g, own', p1, p2, p3, p4⟩
    obtain ⟨t1, t2⟩ := put_told hg hks hVl p1 p2
    refine ⟨rfl, l'.flatMap V, g, own', p3, p4, hw.put hfn f5 f4 t1, t1, fun r => ?_⟩
    rw [t2, List.mem_map]
    constructor
    · rintro ⟨p, hp, rfl⟩
      exact ⟨p, p1.mem_iff.1 hp, rfl⟩
    · rintro ⟨p, hp, rfl⟩
      exact ⟨p, p1.mem_iff.2 hp, rfl⟩
end
end Go.Proofs.YtfbhoemfabgjpaaGreat
