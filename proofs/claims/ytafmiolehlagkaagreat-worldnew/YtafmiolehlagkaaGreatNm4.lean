import Derived.Test.YtafmiolehlagkaaGreatNm3
import Derived.Test.YtafmiolehlagkaaGreatNm2
import Derived.Test.YtafmiolehlagkaaGreatWAdd
import Derived.Test.YtafmiolehlagkaaGreatWNew
/-
  World: a pool's numbers as those of a row.
-/
namespace Go.Proofs.YtafmiolehlagkaaGreat
open Go.RowKit
set_option maxRecDepth 100000
def zi (gs : List Nat) : List Int := gs.map fun n : Nat => (n : Int)
theorem zi_len (gs : List Nat) : (zi gs).length = gs.length := by simp [zi]
theorem own_ns {w : World} {v : Value} {B : Nat} {l : List Int} (h : w.ownsRow B 2 1 v l.length (zc l)) : Pak.Ns w v l := by
  rcases h.2 with ⟨rfl, hl⟩ | ⟨g, c, cur, rfl, -, hg, h1, h2, hcs, htake⟩
  · obtain rfl := List.eq_nil_of_length_eq_zero hl
    exact ⟨none, 0, rfl, Nat.le_refl _, Nat.zero_le _, fun j hj => absurd hj (by simp)⟩
  · refine ⟨_, c, rfl, h1, h2, fun j hj => ⟨g, 0, rfl, ?_⟩⟩
    rw [Nat.zero_add, h.cellAt j (by omega), zc_at l j hj]
    simp [hj]
set_option maxHeartbeats 2000000 in
theorem wide_any {w : World} {v : Value} {B : Nat} {gs : List Nat} (h : w.ownsRow B 3 1 v gs.length (ic gs)) (hl : gs.length ≤ 1000000) :
    Calls Tryz.prog 52 #[v] w fun e w' => ∃ v', e = .returned v' ∧ w'.ownsRow w.heap.size 2 1 v' gs.length (zc (zi gs)) ∧ Below w.heap.size w w' := by
  obtain ⟨i0, hi0, hz0, hz1, hz2⟩ := info_parts info2
  obtain ⟨ao, c, rfl⟩ := own_len h
  have hcap := own_cap h
  have H := hide h
  clear h
  go_enter Tryz.func52, Tryz.ntmps52
  go_wp2_with (at_make; refine wpList_make_full _ rfl _ _ 30 rfl w.heap.size 2 i0 (.int .i64 0) 1 Tryz.underlying30 hi0 hz0 hz1 .i64 .i64 _ _ gs.length rfl rfl ?c1 ?c2 ?c3 ?c4 ?c5 ?_)
  case c1 => omega
  case c2 => omega
  case c3 => rw [hz2]; omega
  case c4 => unfold maxLen; omega
  case c5 => omega
  intro w1 hown hgrow
  rw [toList_madeCells_one] at hown
  have HB1 : Hid (Below w.heap.size w w1) := (Below.refl _ _).grown hgrow (Nat.le_refl _) (by intro k hk; cases hk)
  have HO1 : Hid (w1.ownsRow w.heap.size 2 1 (.slice (some ⟨w.heap.size, 0, none⟩) gs.length gs.length) gs.length (zc ((zi gs).take 0 ++ List.replicate (gs.length - 0) 0))) := by
    have e : zc ((zi gs).take 0 ++ List.replicate (gs.length - 0) 0) = List.replicate gs.length (.int .i64 0) := by simp [zc]
    rw [e]
    exact hown
  clear hown hgrow
  obtain ⟨ko, hko⟩ : ∃ k, k = w.heap.size := ⟨_, rfl⟩
  rw [← hko] at HO1 ⊢
  have HK : Hid (w.heap.size ≤ ko) := by unfold Hid; omega
  rw [hko] at HO1
  rw [show (Value.slice (some ⟨w.heap.size, 0, none⟩) gs.length gs.length) = .slice (some ⟨ko, 0, none⟩) gs.length gs.length by rw [hko]] at HO1
  clear hko
  go_wp2_with fail
  go_loopw [11] (fun v11 W => ∃ j : Nat, j ≤ gs.length ∧ v11 = .int .i64 (j : Int) ∧ Hid (W.ownsRow w.heap.size 2 1 (.slice (some ⟨ko, 0, none⟩) gs.length gs.length) gs.length (zc ((zi gs).take j ++ List.replicate (gs.length - j) 0))) ∧ Hid (Below w.heap.size w W)) (fun v11 _ => gs.length - (intOf v11).toNat)
  case atStart => exact ⟨0, Nat.zero_le _, rfl, HO1, HB1⟩
  case round =>
    obtain ⟨j, hjl, rfl, HR, HB⟩ := hrel
    by_cases hj : j < gs.length
    · have t1 : (j : Int) < (gs.length : Int) := by omega
      obtain ⟨g, c', e', -, -⟩ := own_form H.out (by omega)
      simp only [Value.slice.injEq] at e'
      obtain ⟨rfl, -, rfl⟩ := e'
      have e1 := own_int (own_later H.out HB.out) j hj
      have eo : wr.cell? ⟨ko, j, none⟩ = some (.int .i64 0) := by
        rw [HR.out.cellAt j (by omega)]
        exact fill_at _ _ _ (zi_len _) hj
      have ef := HR.out.frozenAt j
      have hx : (zi gs)[j]? = some ((gs[j] : Nat) : Int) := by simp [zi, hj]
      have hst := (HR.out.stored j (.int .i64 ((gs[j] : Nat) : Int))).1
      rw [zc_set, fill_set _ _ _ _ (zi_len _) hj hx] at hst
      generalize ((gs[j] : Nat) : Int) = x at *
      have HST := hide hst
      have HB2 : Hid (Below w.heap.size w (wr.setCell ⟨ko, j, none⟩ (.int .i64 x))) := below_set HB.out HK.out
      clear hst hx
      go_wp2_with fail
      go_roundw
      case rel => exact ⟨j + 1, by omega, by go_num, HST, HB2⟩
      case measure => simp [intOf]; omega
    · obtain rfl : j = gs.length := by omega
      have t1 : ¬ (gs.length : Int) < (gs.length : Int) := by omega
      have hfin : (zc ((zi gs).take gs.length ++ List.replicate (gs.length - gs.length) 0)) = zc (zi gs) := by
        rw [List.take_of_length_le (by rw [zi_len]; exact Nat.le_refl _)]
        simp
      have hr := HR.out
      rw [hfin] at hr
      have HRF := hide hr
      clear hr hfin HR
      go_wp2_with fail
      go_ret
      exact ⟨_, rfl, HRF.out, HB.out⟩
end Go.Proofs.YtafmiolehlagkaaGreat

/-
  World: what Snapshot writes of one.
-/
namespace Go.Proofs.YtafmiolehlagkaaGreat
open Go.RowKit
set_option maxRecDepth 100000
/-- What is written of parts. -/
def valB (l : List Int) : List UInt8 := l.flatMap Pak.Rw.ivar
def wrB (s : Nat) (R : List (Nat × List Int)) : List UInt8 := Lib.uvarint s ++ R.flatMap (fun r => valB r.2)
theorem bs_own {w : World} {v : Value} {B n : Nat} {l : List UInt8} (h : w.ownsRow B 5 1 v n (Lib.byteCells l)) (hn : n = l.length) : Pak.Bs w v l := by
  subst hn
  rcases h.2 with ⟨rfl, hl⟩ | ⟨g, c, cur, rfl, -, hg, h1, h2, hcs, htake⟩
  · obtain rfl := List.eq_nil_of_length_eq_zero hl
    exact Pak.Bs.nil w
  · refine ⟨_, c, rfl, h1, h2, fun j hj => ⟨g, 0, rfl, ?_⟩⟩
    rw [Nat.zero_add, h.cellAt j (by omega)]
    simp [Lib.byteCells, hj]
theorem own_slice {w : World} {B e s n : Nat} {v : Value} {xs : List Value} (h : w.ownsRow B e s v n xs) : ∃ a m c, v = .slice a m c := by
  obtain ⟨a, c, e⟩ := own_len h
  exact ⟨a, n, c, e⟩
theorem val_len {l : List Int} (h : Pak.Rw.AllFit l) : (valB l).length ≤ 10 * l.length := by
  induction l with
  | nil => simp [valB]
  | cons z t ih =>
    have h1 := Pak.Rw.ivar_length (h z (by simp))
    have h2 := ih (fun x hx => h x (List.mem_cons_of_mem _ hx))
    simp only [valB, List.flatMap_cons, List.length_append, List.length_cons] at h2 ⊢
    omega
theorem val_push (l : List Int) (i : Nat) (hi : i < l.length) : valB (l.take (i + 1)) = valB (l.take i) ++ Pak.Rw.ivar l[i] := by
  rw [List.take_succ_eq_append_getElem hi, valB, List.flatMap_append, List.flatMap_singleton]
  rfl
theorem fm_push (R : List (Nat × List Int)) (i : Nat) (hi : i < R.length) : (R.take (i + 1)).flatMap (fun r => valB r.2) = (R.take i).flatMap (fun r => valB r.2) ++ valB R[i].2 := by
  rw [List.take_succ_eq_append_getElem hi, List.flatMap_append, List.flatMap_singleton]
theorem flat_len {R : List (Nat × List Int)} (h : ∀ r ∈ R, Pak.Rw.AllFit r.2 ∧ r.2.length ≤ 100) : (R.flatMap (fun r => valB r.2)).length ≤ 1000 * R.length := by
  induction R with
  | nil => simp
  | cons r t ih =>
    have h1 := val_len (h r (by simp)).1
    have h2 := (h r (by simp)).2
    have h3 := ih (fun x hx => h x (List.mem_cons_of_mem _ hx))
    simp only [List.flatMap_cons, List.length_append, List.length_cons] at h3 ⊢
    omega
theorem wr_len {s : Nat} (hs : s < 8192) {R : List (Nat × List Int)} (h : ∀ r ∈ R, Pak.Rw.AllFit r.2 ∧ r.2.length ≤ 100) : (wrB s R).length ≤ 10 + 1000 * R.length := by
  have h1 := flat_len h
  have h2 := Lib.uvarint_length64 (show s < 18446744073709551616 by omega)
  unfold wrB
  rw [List.length_append]
  omega
section
variable {w w' : World} {own : Nat → Nat} {gw gp gm gt M M' : Nat} {vk : Value} {ks : List Kind} {gs fr gs' fr' : List Nat} {f f' : Int × Int → Option Nat} {q q' : Nat → Option Nat} {T T' : Nat → Ts}
set_option maxHeartbeats 8000000 in
theorem written_any (h : Wx 0 w own gw vk gp gm gt M ks gs fr f q T) (a b : Int) (hib : InB (a, b)) (s : Nat) (hf : f (a, b) = some s) (hs : s < 8192) (B : Nat) (ap : Option Addr) (np cp : Nat) (L : List Pt) (R : List (Nat × List Int)) (hL : w.ownsRow B 32 2 (.slice ap np cp) L.length (pz L)) (hP : Pv B w L R) (hfit : ∀ r ∈ R, Pak.Rw.AllFit r.2 ∧ r.2.length ≤ 100) (hn : R.length ≤ 100) :
    Calls Tryz.prog 53 #[.pointer (some ⟨gw, 0, none⟩), .agg #[.int .i64 a, .int .i64 b, .slice ap np cp]] w fun e w' => ∃ v, e = .returned v ∧ w'.ownsRow w.heap.size 5 1 v (wrB s R).length (Lib.byteCells (wrB s R)) ∧ Below w.heap.size w w' := by
  obtain rfl : np = L.length := by
    obtain ⟨x, y, e⟩ := own_len hL
    simp only [Value.slice.injEq] at e
    exact e.2.1
  have hcp := own_cap hL
  obtain ⟨w1, hw1⟩ : ∃ X, X = w.alloc (.cells #[.int .i64 a, .int .i64 b, .slice ap L.length cp] 87) := ⟨_, rfl⟩
  have B1 : Hid (Below w.heap.size w w1) := hw1 ▸ below_alloc w _
  have hx1 : w1.heap[w.heap.size]? = some (.cells #[.int .i64 a, .int .i64 b, .slice ap L.length cp] 87 (0, 0)) := by rw [hw1]; exact heap_alloc_new w _
  have HW : Hid (∀ W, Below w1.heap.size w1 W → (Instr.lookup 106 (.map (some gm)) (.agg #[.int .i64 a, .int .i64 b]) false).run Tryz.prog W = .ok (.int .i64 (s : Int)) W ∧ W.cell? ⟨gw, 2, none⟩ = some (.map (some gm)) ∧ W.cell? ⟨w.heap.size, 0, none⟩ = some (.int .i64 a) ∧ W.cell? ⟨w.heap.size, 1, none⟩ = some (.int .i64 b) ∧ W.cell? ⟨w.heap.size, 2, none⟩ = some (.slice ap L.length cp)) := fun W hW => by
    have hx := h.later (below_on B1.out hW)
    have h5 := (hW.block _ (lt_of_block hx1)).trans hx1
    refine ⟨hx.mp.look1 a b hib hf, hx.cells.2.2.1, ?_, ?_, ?_⟩ <;> rw [cell_of_row W _ _ _ 87 (0, 0) h5] <;> rfl
  have hu : IntKind.u64.wrap (s : Int) = (s : Int) := by rw [IntKind.wrap_u64]; omega
  have J2 := hide (Pak.put_any (.slice none 0 0) [] s w1.drew (Pak.Bs.nil _) (by omega) (by simp))
  have HL := hide hL
  have HP := hide hP
  have HF := hide hfit
  clear h hf hx1 hL hP hfit
  go_enter Tryz.func53, Tryz.ntmps53
  go_upto_region 1 with fail
  rw [← hw1]
  obtain ⟨kx, hkx⟩ : ∃ k, k = w.heap.size := ⟨_, rfl⟩
  rw [← hkx] at HW ⊢
  clear hkx hw1
  obtain ⟨hlk, c2, p0, p1, p2⟩ := HW.out w1.drew (below_drew w1)
  refine wp_region_noPanic ?_
  refine wp_region_late (J := fun i => i != 99) (S := fun W => W.cell? ⟨gw, 2, none⟩ = some (.map (some gm)) ∧ W.cell? ⟨kx, 0, none⟩ = some (.int .i64 a) ∧ W.cell? ⟨kx, 1, none⟩ = some (.int .i64 b)) (by kernel_rfl) ⟨c2, p0, p1⟩ (fun hHeld => ?_)
  refine' wpAnyJ_takeW (i := 0) (oi := { dst := some 10, op := Op.move (Operand.tmp 0), type := 37, pos := "snapshot.go:49", after := #[], guard := none }) (v := _) rfl (by kernel_rfl) (by kernel_rfl) (by kernel_rfl) (fun _ _ _ h => h) (Or.inl ⟨by rfl, ?hyA1⟩) ?reA1
  case hyA1 => (intro W hSw; (try dsimp only at hSw); go_simp; try with_reducible rfl)
  try simp only [Act.put, List.setIfInBounds_toArray, List.set_cons_zero, List.set_cons_succ]
  refine' wpAnyJ_takeW (i := 1) (oi := { dst := some 11, op := Op.nilCheck (Operand.tmp 10), type := 0, pos := "snapshot.go:49", after := #[{ on := 0, ground := Ground.data }], guard := none }) (v := _) rfl (by kernel_rfl) (by kernel_rfl) (by kernel_rfl) (fun _ _ _ h => h) (Or.inl ⟨by rfl, ?hyA2⟩) ?reA2
  case hyA2 => (intro W hSw; (try dsimp only at hSw); go_simp; try with_reducible rfl)
  try simp only [Act.put, List.setIfInBounds_toArray, List.set_cons_zero, List.set_cons_succ]
  refine' wpAnyJ_takeW (i := 2) (oi := { dst := some 12, op := Op.fieldAddr 109 (Operand.tmp 11) 2, type := 0, pos := "snapshot.go:49", after := #[{ on := 1, ground := Ground.data }], guard := none }) (v := _) rfl (by kernel_rfl) (by kernel_rfl) (by kernel_rfl) (fun _ _ _ h => h) (Or.inl ⟨by rfl, ?hyA3⟩) ?reA3
  case hyA3 => (intro W hSw; (try dsimp only at hSw); go_simp; try with_reducible rfl)
  try simp only [Act.put, List.setIfInBounds_toArray, List.set_cons_zero, List.set_cons_succ]
  refine' wpAnyJ_take (i := 3) (oi := { dst := some 13, op := Op.load 106 (Operand.tmp 12), type := 106, pos := "snapshot.go:49", after := #[{ on := 2, ground := Ground.data }], guard := none }) (v := _) rfl (by kernel_rfl) (by kernel_rfl) (by kernel_rfl) (by kernel_rfl) (fun _ _ _ h => h) (Or.inl ⟨by rfl, ?hyA4⟩) (by assumption) ?reA4
  case hyA4 => (intro W hSw; (try dsimp only at hSw); go_simp; try with_reducible rfl)
  try simp only [Act.put, List.setIfInBounds_toArray, List.set_cons_zero, List.set_cons_succ]
  refine' wpAnyJ_takeW (i := 4) (oi := { dst := some 14, op := Op.fieldAddr 87 (Operand.tmp 3) 0, type := 0, pos := "snapshot.go:49", after := #[], guard := none }) (v := _) rfl (by kernel_rfl) (by kernel_rfl) (by kernel_rfl) (fun _ _ _ h => h) (Or.inl ⟨by rfl, ?hyA5⟩) ?reA5
  case hyA5 => (intro W hSw; (try dsimp only at hSw); go_simp; try with_reducible rfl)
  try simp only [Act.put, List.setIfInBounds_toArray, List.set_cons_zero, List.set_cons_succ]
  refine' wpAnyJ_take (i := 5) (oi := { dst := some 15, op := Op.load 29 (Operand.tmp 14), type := 29, pos := "snapshot.go:49", after := #[{ on := 4, ground := Ground.data }], guard := none }) (v := _) rfl (by kernel_rfl) (by kernel_rfl) (by kernel_rfl) (by kernel_rfl) (fun _ _ _ h => h) (Or.inl ⟨by rfl, ?hyA6⟩) (by assumption) ?reA6
  case hyA6 => (intro W hSw; (try dsimp only at hSw); go_simp; try with_reducible rfl)
  try simp only [Act.put, List.setIfInBounds_toArray, List.set_cons_zero, List.set_cons_succ]
  refine wpAnyJ_ready (rs := [6]) (by kernel_rfl) (by simp) ?_
  refine AllReadyJ.cons (o := { dst := some 16, op := Op.lookup 106 (Operand.tmp 13) (Operand.tmp 15) false, type := 3, pos := "snapshot.go:49", after := #[{ on := 3, ground := Ground.data }, { on := 5, ground := Ground.data }], guard := none }) rfl (fun K hK => ?_) AllReadyJ.nil
  go_simp
  refine hK.out _ _ (fun _ _ => ⟨c2, p0, p1⟩) ?_
  clear hK K
  try simp only [Act.put, List.setIfInBounds_toArray, List.set_cons_zero, List.set_cons_succ]
  refine' wpAnyJ_takeW (i := 7) (oi := { dst := some 17, op := Op.convert 3 165 (Operand.tmp 16), type := 165, pos := "snapshot.go:49", after := #[{ on := 6, ground := Ground.data }], guard := none }) (v := _) rfl (by kernel_rfl) (by kernel_rfl) (by kernel_rfl) (fun _ _ _ h => h) (Or.inl ⟨by rfl, ?hyA7⟩) ?reA7
  case hyA7 => (intro W hSw; (try dsimp only at hSw); go_simp; try with_reducible rfl)
  try simp only [Act.put, List.setIfInBounds_toArray, List.set_cons_zero, List.set_cons_succ]
  refine wpAnyJ_ready (rs := [8]) (by kernel_rfl) (by simp) ?_
  refine AllReadyJ.cons (o := { dst := some 18, op := Op.call { callee := Callee.value (Operand.func 111), args := #[Operand.const (Value.slice none 0 0), Operand.tmp 17], argTypes := #[51, 165] }, type := 51, pos := "snapshot.go:49", after := #[{ on := 7, ground := Ground.data }], guard := none }) rfl (fun K hK => ?_) AllReadyJ.nil
  go_simp
  go_at_call 111
  refine J2.out.mono ?_
  rintro e w5 ⟨v5, rfl, ho5, hb5⟩
  have HB5 := hide (below_on (below_drew w1) hb5)
  obtain ⟨-, y2, y3, y4, y5⟩ := HW.out w5 HB5.out
  obtain ⟨a5, n5, c5, rfl⟩ := own_slice ho5
  have HO5 : Hid (w5.ownsRow w.heap.size 5 1 (.slice a5 n5 c5) (wrB s (R.take 0)).length (Lib.byteCells (wrB s (R.take 0)))) := by
      have := own_lower ho5 (show w.heap.size ≤ w1.drew.heap.size from B1.out.size)
      unfold Hid
      simpa [wrB] using this
  clear ho5 hb5
  go_simp
  refine hK.out _ _ (fun _ _ => ⟨y2, y3, y4⟩) ?_
  clear hK K J2
  try simp only [Act.put, List.setIfInBounds_toArray, List.set_cons_zero, List.set_cons_succ]
  refine' wpAnyJ_takeW (i := 9) (oi := { dst := some 5, op := Op.assign (Operand.tmp 18), type := 51, pos := "snapshot.go:49", after := #[{ on := 8, ground := Ground.data }, { on := 8, ground := Ground.chain }, { on := 0, ground := Ground.phase }, { on := 1, ground := Ground.phase }, { on := 2, ground := Ground.phase }, { on := 3, ground := Ground.phase }, { on := 4, ground := Ground.phase }, { on := 5, ground := Ground.phase }, { on := 6, ground := Ground.phase }, { on := 7, ground := Ground.phase }, { on := 8, ground := Ground.phase }], guard := none }) (v := _) rfl (by kernel_rfl) (by kernel_rfl) (by kernel_rfl) (fun _ _ _ h => h) (Or.inl ⟨by rfl, ?hyA8⟩) ?reA8
  case hyA8 => (intro W hSw; (try dsimp only at hSw); go_simp; try with_reducible rfl)
  try simp only [Act.put, List.setIfInBounds_toArray, List.set_cons_zero, List.set_cons_succ]
  refine wpAnyJ_done (by kernel_rfl) ?_ _
  refine NoPanic.normal ?_
  clear hlk c2 p0 p1 p2 y2 y3 y4
  have XL : Hid (∀ W, Below w1.heap.size w1 W → W.ownsRow B 32 2 (.slice ap L.length cp) L.length (pz L) ∧ Pv B W L R) := fun W hW => ⟨own_later HL.out (below_on B1.out hW), HP.out.later (below_on B1.out hW)⟩
  have hLR : L.length = R.length := HP.out.1
  have HLR := hide hLR
  clear hLR HL HP hu hib
  go_wp2_with fail
  clear y5
  go_loopw [5, 22] (fun v5 v22 W => ∃ i : Nat, i ≤ L.length ∧ v22 = .int .i64 (i : Int) ∧ Hid (W.ownsRow w.heap.size 5 1 v5 (wrB s (R.take i)).length (Lib.byteCells (wrB s (R.take i)))) ∧ Hid (Below w1.heap.size w1 W)) (fun _ v22 _ => L.length - (intOf v22).toNat)
  case atStart => exact ⟨0, Nat.zero_le _, rfl, HO5, HB5⟩
  case round =>
    obtain ⟨i, hil, rfl, HO, HB⟩ := hrel
    obtain ⟨wo, rfl⟩ : ∃ X, X = wr := ⟨wr, rfl⟩
    by_cases hlt : i < L.length
    · have t1 : (i : Int) < (L.length : Int) := by omega
      have hRi : i < R.length := by have := HLR.out; omega
      obtain ⟨hl1, hl2⟩ := XL.out wo HB.out
      obtain ⟨g, c', e', -, -⟩ := own_form hl1 (by omega)
      simp only [Value.slice.injEq] at e'
      obtain ⟨rfl, -, rfl⟩ := e'
      obtain ⟨e1, e2⟩ := own_part hl1 i hlt
      obtain ⟨k1, k2⟩ := hl2.2 i hlt hRi
      have hfi := HF.out _ (List.getElem_mem hRi)
      have hfp := fm_push R i hRi
      have hlen : (wrB s (R.take i)).length ≤ 10 + 1000 * 100 := by
        have := wr_len hs (R := R.take i) (fun r hr => HF.out r (List.mem_of_mem_take hr))
        have : (R.take i).length ≤ 100 := by rw [List.length_take]; omega
        omega
      have HNX : Hid (wrB s (R.take (i + 1)) = wrB s (R.take i) ++ valB R[i].2) := by
        unfold wrB Hid
        rw [hfp, List.append_assoc]
      generalize wrB s (R.take i) = b0 at *
      generalize R[i].2 = vs at *
      generalize L[i] = p at *
      obtain ⟨kd, av, nv, cv⟩ := p
      obtain ⟨x1, x2, x3⟩ := own_len k2
      simp only [ptV, Value.slice.injEq] at x3
      obtain ⟨rfl, rfl, rfl⟩ := x3
      simp only [ptV] at e1 e2 k2
      have hcv := own_cap k2
      have HV := hide k2
      have HFI := hide hfi
      have hvl : vs.length ≤ 100 := hfi.2
      obtain ⟨a0, n0, c0, rfl⟩ := own_slice HO.out
      obtain ⟨wp, hwp⟩ : ∃ X, X = wo.alloc (.cells #[.int .i64 kd, .slice av vs.length cv] 32) := ⟨_, rfl⟩
      have BP : Hid (Below wo.heap.size wo wp) := hwp ▸ below_alloc wo _
      have HOP : Hid (wp.ownsRow w.heap.size 5 1 (.slice a0 n0 c0) (b0 ++ valB (vs.take 0)).length (Lib.byteCells (b0 ++ valB (vs.take 0)))) := by
        have := own_later HO.out BP.out
        unfold Hid
        simpa [valB] using this
      clear hl1 hl2 k1 k2 hfi hfp HO
      go_wp2_with fail
      rw [← hwp]
      clear hwp e1 e2
      go_loopw [5, 29] (fun v5 v29 W => ∃ j : Nat, j ≤ vs.length ∧ v29 = .int .i64 (j : Int) ∧ Hid (W.ownsRow w.heap.size 5 1 v5 (b0 ++ valB (vs.take j)).length (Lib.byteCells (b0 ++ valB (vs.take j)))) ∧ Hid (Below wo.heap.size wo W)) (fun _ v29 _ => vs.length - (intOf v29).toNat)
      case atStart => exact ⟨0, Nat.zero_le _, rfl, HOP, BP⟩
      case round =>
        obtain ⟨j, hjl, rfl, HOJ, HBJ⟩ := hrel
        by_cases hj : j < vs.length
        · have t2 : (j : Int) < (vs.length : Int) := by omega
          obtain ⟨gv, c'', e'', -, -⟩ := own_form HV.out (by omega)
          simp only [Value.slice.injEq] at e''
          obtain ⟨rfl, -, rfl⟩ := e''
          have e3 := own_num (own_later HV.out HBJ.out) j hj
          have hfz := HFI.out.1 _ (List.getElem_mem hj)
          have hpush := val_push vs j hj
          have hln : (b0 ++ valB (vs.take j)).length + 20 ≤ 140737488355328 := by
            have := val_len (l := vs.take j) (fun z hz => HFI.out.1 z (List.mem_of_mem_take hz))
            have : (vs.take j).length ≤ 100 := by rw [List.length_take]; omega
            rw [List.length_append]
            omega
          generalize vs[j] = z at *
          have HPU : Hid (b0 ++ valB (vs.take (j + 1)) = (b0 ++ valB (vs.take j)) ++ Lib.uvarint (Lib.zigzag z)) := by
            unfold Hid
            rw [hpush, List.append_assoc]
            rfl
          obtain ⟨a1, n1, c1, rfl⟩ := own_slice HOJ.out
          have JI := hide (Pak.putInt_any _ _ z wr (bs_own HOJ.out rfl) hfz.1 hfz.2 hln)
          have HSJ : Hid (w.heap.size ≤ wr.heap.size) := (below_on B1.out (below_on HB.out HBJ.out)).size
          generalize b0 ++ valB (vs.take j) = bj at *
          clear hfz hpush hln
          go_wp2_with fail
          refine JI.out.mono ?_
          rintro e w7 ⟨v7, rfl, ho7, hb7⟩
          have HO7 : Hid (w7.ownsRow w.heap.size 5 1 v7 (b0 ++ valB (vs.take (j + 1))).length (Lib.byteCells (b0 ++ valB (vs.take (j + 1))))) := by
            rw [HPU.out, List.length_append]
            exact own_lower ho7 HSJ.out
          have HB7 := hide (below_on HBJ.out hb7)
          clear ho7 hb7 JI
          obtain ⟨a7, n7, c7, rfl⟩ := own_slice HO7.out
          go_wp2_with fail
          go_roundw
          case rel => exact ⟨j + 1, by omega, by go_num, HO7, HB7⟩
          case measure => simp [intOf]; omega
        · obtain rfl : j = vs.length := by omega
          have t2 : ¬ (vs.length : Int) < (vs.length : Int) := by omega
          have ho := HOJ.out
          rw [List.take_length, ← HNX.out] at ho
          have HO9 := hide ho
          clear ho HOJ
          obtain ⟨a9, n9, c9, rfl⟩ := own_slice HO9.out
          have HB9 := hide (below_on HB.out HBJ.out)
          go_wp2_with fail
          go_roundw
          case rel => exact ⟨i + 1, by omega, by go_num, HO9, HB9⟩
          case measure => simp [intOf]; omega
    · obtain rfl : i = L.length := by omega
      have t1 : ¬ (L.length : Int) < (L.length : Int) := by omega
      have ho := HO.out
      rw [HLR.out, List.take_length] at ho
      have HO9 := hide ho
      have HB9 := hide (below_on B1.out HB.out)
      clear ho HO
      obtain ⟨a9, n9, c9, rfl⟩ := own_slice HO9.out
      go_wp2_with fail
      go_ret
      exact ⟨_, rfl, HO9.out, HB9.out⟩
end
end Go.Proofs.YtafmiolehlagkaaGreat

/-
  World: Snapshot.
-/
namespace Go.Proofs.YtafmiolehlagkaaGreat
open Go.RowKit
set_option maxRecDepth 100000
theorem partsL_sub : ∀ (ks : List Kind) (s k0 : Nat) (vals : List Int) (r : Nat × List Int), r ∈ partsL ks s k0 vals → ∀ z ∈ r.2, z ∈ vals
  | [], _, _, _, _, h => by cases h
  | kd :: t, s, k0, vals, r, h => by
    unfold partsL at h
    by_cases c : s.testBit k0 = true
    · rw [if_pos c] at h
      rcases List.mem_cons.1 h with rfl | h
      · exact fun z hz => List.mem_of_mem_take hz
      · exact fun z hz => List.mem_of_mem_drop (partsL_sub t s (k0 + 1) _ r h z hz)
    · rw [if_neg c] at h
      exact partsL_sub t s (k0 + 1) _ r h
theorem partsL_le : ∀ (ks : List Kind) (s k0 : Nat) (vals : List Int), (partsL ks s k0 vals).length ≤ ks.length
  | [], _, _, _ => Nat.le_refl _
  | kd :: t, s, k0, vals => by
    unfold partsL
    have h1 := partsL_le t s (k0 + 1) (vals.drop kd.2.length)
    have h2 := partsL_le t s (k0 + 1) vals
    split <;> simp only [List.length_cons] <;> omega
/-- What a world holds of one, as it is written. -/
def contB (ks : List Kind) (f : Int × Int → Option Nat) (T : Nat → Ts) (e : Int × Int) : List UInt8 :=
  match f e with
  | none => []
  | some s => wrB s (partsL ks s 1 (rowOf (T s).2 ((T s).1.idxOf e)))
def snapB (ks : List Kind) (gs fr : List Nat) (f : Int × Int → Option Nat) (T : Nat → Ts) (E : List (Int × Int)) : List UInt8 := Pak.Rw.rowB (zi gs) ++ Pak.Rw.rowB (zi fr) ++ E.flatMap (contB ks f T)
/-- All that live, by their numbers. -/
def Livers (f : Int × Int → Option Nat) (E : List (Int × Int)) : Prop := E.Pairwise (fun x y => x.1 ≤ y.1) ∧ E.Nodup ∧ (∀ e, InB e → ((f e).isSome = true ↔ e ∈ E)) ∧ ∀ e ∈ E, InB e
theorem rowB_len {l : List Int} (h : Pak.Rw.AllFit l) (hl : l.length ≤ 1048576) : (Pak.Rw.rowB l).length ≤ 20 * l.length + 30 := by
  unfold Pak.Rw.rowB
  split
  · simp
  · have h1 := Pak.Rw.formB_length h hl (Pak.Rw.best l)
    have h2 := Lib.uvarint_length64 (show l.length < 18446744073709551616 by omega)
    rw [List.length_append, List.length_cons]
    omega
theorem zi_fit {gs : List Nat} (h : ∀ x ∈ gs, x ≤ 2000000) : Pak.Rw.AllFit (zi gs) := fun z hz => by
  simp only [zi, List.mem_map] at hz
  obtain ⟨x, hx, rfl⟩ := hz
  have := h x hx
  unfold Pak.Rw.Fits
  omega
theorem cont_of {ks : List Kind} {f : Int × Int → Option Nat} {q : Nat → Option Nat} {T : Nat → Ts} (hw : Wi ks f q T) {e : Int × Int} {s j : Nat} (hf : f e = some s) (hj : ∃ hj : j < (T s).1.length, (T s).1[j] = e) : contB ks f T e = wrB s (partsL ks s 1 (rowOf (T s).2 j)) := by
  obtain ⟨hj, hx⟩ := hj
  obtain ⟨_, ⟨g, hq⟩, _⟩ := hw.1 e s hf
  have hn := (hw.2 s g hq).2.2.1
  have : (T s).1.idxOf e = j := by
    have h1 : (T s).1.idxOf e < (T s).1.length := List.idxOf_lt_length_iff.2 (hx ▸ List.getElem_mem hj)
    exact nodup_at hn h1 hj ((List.getElem_idxOf h1).trans hx.symm)
  unfold contB
  rw [hf]
  dsimp only
  rw [this]
/-- Rows in memory of their own. -/
def Rk (B : Nat) (W : World) (ks : List Kind) (f : Int × Int → Option Nat) (T : Nat → Ts) (v : Value) (R : List Rt) : Prop := W.ownsRow B 87 3 v R.length (rz R) ∧ ∀ r ∈ R, Rw1 B W ks f T (fun _ => False) r
section
variable {B : Nat} {W W' : World} {ks : List Kind} {f : Int × Int → Option Nat} {T : Nat → Ts} {v : Value} {R : List Rt}
theorem Rk.later (h : Rk B W ks f T v R) (hb : Below W.heap.size W W') : Rk B W' ks f T v R := ⟨own_later h.1 hb, fun r hr => (h.2 r hr).grown (grown_later hb) (fun k e => by cases e)⟩
theorem Rk.grown {b : Value} {B' n : Nat} {xs : List Value} (h : Rk B W ks f T v R) (hb : W.ownsRow B' 5 1 b n xs) (hg : W.grownBy W' b.ownBlock) : Rk B W' ks f T v R := by
  refine ⟨own_kept h.1 hg (fun k e e2 => own_kinds h.1 hb (by decide) e e2), fun r hr => ?_⟩
  obtain ⟨s, j, L, h1, h2, h3, h4, h5, h6⟩ := h.2 r hr
  refine ⟨s, j, L, h1, h2, own_kept h3 hg (fun k e e2 => own_kinds h3 hb (by decide) e e2), h4.grown hg (fun p hp k e e2 => ?_), h5, h6⟩
  obtain ⟨m, hm, rfl⟩ := List.getElem_of_mem hp
  exact own_kinds (h4.2 m hm (by rw [← h4.1]; exact hm)).2 hb (by decide) e e2
end
section
variable {w w' : World} {own : Nat → Nat} {gw gp gm gt M M' : Nat} {vk : Value} {ks : List Kind} {gs fr gs' fr' : List Nat} {f f' : Int × Int → Option Nat} {q q' : Nat → Option Nat} {T T' : Nat → Ts}
theorem fm_rows (R : List Rt) (i : Nat) (hi : i < R.length) (g : Int × Int → List UInt8) : ((R.take (i + 1)).map entR).flatMap g = ((R.take i).map entR).flatMap g ++ g (entR R[i]) := by
  rw [List.take_succ_eq_append_getElem hi, List.map_append, List.flatMap_append]
  simp
theorem wrote (h : Wx 0 w own gw vk gp gm gt M ks gs fr f q T) (hw : Wi ks f q T) (hks : ks.length ≤ 12) (hfit : ∀ s g, q s = some g → ∀ c ∈ (T s).2, Pak.Rw.AllFit c) {B : Nat} {r : Rt} (hr : Rw1 B w ks f T (fun _ => False) r) (hin : InB (entR r)) :
    (Calls Tryz.prog 53 #[.pointer (some ⟨gw, 0, none⟩), .agg #[.int .i64 r.1, .int .i64 r.2.1, rtV r]] w fun e w' => ∃ v, e = .returned v ∧ w'.ownsRow w.heap.size 5 1 v (contB ks f T (entR r)).length (Lib.byteCells (contB ks f T (entR r))) ∧ Below w.heap.size w w') ∧ 0 < (contB ks f T (entR r)).length ∧ (contB ks f T (entR r)).length ≤ 13000 := by
  obtain ⟨s, j, L, h1, h2, h3, h4, -, -⟩ := hr
  rw [cont_of hw h1 h2]
  obtain ⟨hs, ⟨g, hq⟩, -⟩ := hw.1 _ s h1
  obtain ⟨-, k2, -, -, -, -⟩ := hw.2 s g hq
  have hv : Pak.Rw.AllFit (rowOf (T s).2 j) := fun z hz => by
    simp only [rowOf, List.mem_map] at hz
    obtain ⟨c, hc, rfl⟩ := hz
    exact Pak.Rw.getD_fits (hfit s g hq c hc) j
  have h48 : (rowOf (T s).2 j).length ≤ 48 := by
    rw [rowOf_len]
    obtain ⟨n, -, ht⟩ := h.tb hq
    obtain ⟨lab, vr, gm', vc, cs, f', -, -, -, -, -, -, h48⟩ := ht
    exact h48
  have hR : ∀ r ∈ partsL ks s 1 (rowOf (T s).2 j), Pak.Rw.AllFit r.2 ∧ r.2.length ≤ 100 := fun r hr => by
    refine ⟨fun z hz => hv z (partsL_sub ks s 1 _ r hr z hz), ?_⟩
    have hfl := partsL_flat ks s 1 (rowOf (T s).2 j) (by rw [rowOf_len, k2])
    have : r.2.length ≤ ((partsL ks s 1 (rowOf (T s).2 j)).flatMap (·.2)).length := by
      obtain ⟨i, hi, rfl⟩ := List.getElem_of_mem hr
      have := (List.sublist_flatten_of_mem (L := (partsL ks s 1 (rowOf (T s).2 j)).map (·.2)) (List.mem_map.2 ⟨_, List.getElem_mem hi, rfl⟩)).length_le
      rwa [List.flatMap_def]
    rw [hfl] at this
    omega
  have hn := partsL_le ks s 1 (rowOf (T s).2 j)
  refine ⟨written_any h r.1 r.2.1 hin s h1 hs B _ _ _ L _ h3 h4 hR (by omega), ?_, ?_⟩
  · unfold wrB
    rw [List.length_append]
    have : 0 < (Lib.uvarint s).length := by
      rw [Lib.uvarint]
      split <;> simp
    omega
  · have := wr_len hs hR
    omega
end
end Go.Proofs.YtafmiolehlagkaaGreat

/-
  World: Snapshot's walk.
-/
namespace Go.Proofs.YtafmiolehlagkaaGreat
open Go.RowKit
set_option maxRecDepth 100000
section
variable {w w' : World} {own : Nat → Nat} {gw gp gm gt M M' : Nat} {vk : Value} {ks : List Kind} {gs fr gs' fr' : List Nat} {f f' : Int × Int → Option Nat} {q q' : Nat → Option Nat} {T T' : Nat → Ts}
set_option maxHeartbeats 8000000 in
theorem snapshot_any (h : Wx 0 w own gw vk gp gm gt M ks gs fr f q T) (hw : Wi ks f q T) (hks : ks.length ≤ 12) (hfit : ∀ s g, q s = some g → ∀ c ∈ (T s).2, Pak.Rw.AllFit c) (hcnt : ∀ E : List (Int × Int), E.Nodup → (∀ e ∈ E, (f e).isSome = true) → E.length ≤ 200) :
    Calls Tryz.prog 13 #[.pointer (some ⟨gw, 0, none⟩)] w fun e w' => ∃ v, e = .returned v ∧ (∃ E, Livers f E ∧ w'.ownsRow w.heap.size 5 1 v (snapB ks gs fr f T E).length (Lib.byteCells (snapB ks gs fr f T E))) ∧ Below w.heap.size w w' := by
  obtain ⟨i0, hi0, hz0, hz1, hz2⟩ := info_parts Pak.info5
  obtain ⟨-, c1, -, -⟩ := h.cells
  have hpl := h.pl
  have hok := hpl.2
  have hgl : gs.length ≤ 200 := hok.2.2.1
  have hfl : fr.length ≤ 200 := Nat.le_trans hok.free_len hgl
  have hgf : Pak.Rw.AllFit (zi gs) := zi_fit (fun x hx => by have := (hok.2.2.2.1 x hx).2; omega)
  have hff : Pak.Rw.AllFit (zi fr) := zi_fit (fun x hx => by have := (hok.2.2.2.2.2 x hx).1; omega)
  have J1 := hide (state_any hpl)
  have JR : Hid (∀ W, Below w.heap.size w W → Calls Tryz.prog 29 #[.pointer (some ⟨gw, 0, none⟩)] W fun e w' => ∃ v, e = .returned v ∧ (∃ R, Rs W.heap.size w' ks f T v R) ∧ Below W.heap.size W w') := fun W hW => rows_any (h.later hW) hw hks hcnt
  have JW : Hid (∀ (W : World) (B : Nat) (r : Rt), Below w.heap.size w W → Rw1 B W ks f T (fun _ => False) r → InB (entR r) → (Calls Tryz.prog 53 #[.pointer (some ⟨gw, 0, none⟩), .agg #[.int .i64 r.1, .int .i64 r.2.1, rtV r]] W fun e w' => ∃ v, e = .returned v ∧ w'.ownsRow W.heap.size 5 1 v (contB ks f T (entR r)).length (Lib.byteCells (contB ks f T (entR r))) ∧ Below W.heap.size W w') ∧ 0 < (contB ks f T (entR r)).length ∧ (contB ks f T (entR r)).length ≤ 13000) := fun W B r hW hr hin => wrote (h.later hW) hw hks hfit hr hin
  have HG := hide hgf
  have HFF := hide hff
  have HC := hide hcnt
  clear hpl hok hw hfit h hgf hff hcnt
  go_enter Tryz.func13, Tryz.ntmps13
  go_wp2_with fail
  refine J1.out.mono ?_
  rintro e w1 ⟨v1, v2, rfl, o1, o2, -, hb1⟩
  have J2 := hide (wide_any o1 (by omega))
  have O2 := hide o2
  obtain ⟨a1, n1, k1, rfl⟩ := own_slice o1
  obtain ⟨a2, n2, k2, rfl⟩ := own_slice o2
  have HB1 := hide hb1
  clear o1 o2 hb1 J1 c1
  go_wp2_with fail
  refine J2.out.mono ?_
  rintro e w2 ⟨v3, rfl, o3, hb2⟩
  have J3 := hide (Pak.putRow_any (.slice none 0 0) v3 [] (zi gs) w2 (Pak.Bs.nil _) (own_ns (by rw [zi_len]; exact o3)) HG.out (by rw [zi_len]; omega) (by simp))
  have HB2 := hide (below_on HB1.out hb2)
  have O2' := hide (own_later O2.out hb2)
  obtain ⟨a3, n3, k3, rfl⟩ := own_slice o3
  clear o3 hb2 J2 O2
  go_wp2_with fail
  refine J3.out.mono ?_
  rintro e w3 ⟨v4, rfl, o4, hb3⟩
  have O4 : Hid (w3.ownsRow w.heap.size 5 1 v4 (Pak.Rw.rowB (zi gs)).length (Lib.byteCells (Pak.Rw.rowB (zi gs)))) := by
    have := own_lower o4 HB2.out.size
    unfold Hid
    simpa using this
  have J4 := hide (wide_any (own_later O2'.out hb3) (by omega))
  have HB3 := hide (below_on HB2.out hb3)
  obtain ⟨a4, n4, k4, rfl⟩ := own_slice o4
  clear o4 hb3 J3 O2'
  go_wp2_with fail
  refine J4.out.mono ?_
  rintro e w4 ⟨v5, rfl, o5, hb4⟩
  have hgB := rowB_len HG.out (by rw [zi_len]; omega)
  rw [zi_len] at hgB
  have J5 := hide (Pak.putRow_any (.slice a4 n4 k4) v5 (Pak.Rw.rowB (zi gs)) (zi fr) w4 (bs_own (own_later O4.out hb4) rfl) (own_ns (by rw [zi_len]; exact o5)) HFF.out (by rw [zi_len]; omega) (by omega))
  have HB4 := hide (below_on HB3.out hb4)
  obtain ⟨a5, n5, k5, rfl⟩ := own_slice o5
  clear o5 hb4 J4 O4
  go_wp2_with fail
  refine J5.out.mono ?_
  rintro e w5 ⟨v6, rfl, o6, hb5⟩
  have O6 : Hid (w5.ownsRow w.heap.size 5 1 v6 (Pak.Rw.rowB (zi gs) ++ Pak.Rw.rowB (zi fr)).length (Lib.byteCells (Pak.Rw.rowB (zi gs) ++ Pak.Rw.rowB (zi fr)))) := by
    rw [List.length_append]
    exact own_lower o6 HB4.out.size
  have HB5 := hide (below_on HB4.out hb5)
  obtain ⟨a6, n6, k6, rfl⟩ := own_slice o6
  have hfB := rowB_len HFF.out (by rw [zi_len]; omega)
  rw [zi_len] at hfB
  have hbl : (Pak.Rw.rowB (zi gs) ++ Pak.Rw.rowB (zi fr)).length ≤ 10000 := by rw [List.length_append]; omega
  clear o6 hb5 J5 hgB hfB
  go_wp2_with fail
  refine (JR.out w5 HB5.out).mono ?_
  rintro e w6 ⟨v7, rfl, ⟨R, hRs⟩, hb6⟩
  obtain ⟨r1, r2, r3, r4, r5, r6⟩ := hRs
  have hRl : R.length ≤ 200 := by
    have := HC.out _ r3 (fun e he => by
      obtain ⟨r, hr, rfl⟩ := List.mem_map.1 he
      exact (r4 _ (r6 r hr)).2 (List.mem_map.2 ⟨r, hr, rfl⟩))
    rwa [List.length_map] at this
  have HE : Hid (Livers f (R.map entR)) := ⟨List.pairwise_map.2 (r2.imp (fun h => h)), r3, r4, fun e he => by
    obtain ⟨r, hr, rfl⟩ := List.mem_map.1 he
    exact r6 r hr⟩
  have HRK : Hid (Rk w.heap.size w6 ks f T v7 R) := ⟨own_lower r1 HB5.out.size, fun r hr => ((r5 r hr).off (fun _ _ _ e => e.elim)).low HB5.out.size⟩
  have HRI : Hid (∀ r ∈ R, InB (entR r)) := r6
  have O7 : Hid (w6.ownsRow w.heap.size 5 1 (.slice a6 n6 k6) (snapB ks gs fr f T ((R.take 0).map entR)).length (Lib.byteCells (snapB ks gs fr f T ((R.take 0).map entR)))) := by
    have := own_later O6.out hb6
    unfold Hid
    simpa [snapB] using this
  have HB6 := hide (below_on HB5.out hb6)
  have hsl : ∀ i, i ≤ R.length → i ≤ 200 := fun i hi => by omega
  obtain ⟨a7, k7, rfl⟩ := own_len r1
  have hcap := own_cap r1
  clear r1 r2 r3 r4 r5 r6 hb6 O6 JR
  go_wp2_with fail
  go_loopw [5, 26] (fun v5 v26 W => ∃ i : Nat, i ≤ R.length ∧ v26 = .int .i64 (i : Int) ∧ (snapB ks gs fr f T ((R.take i).map entR)).length ≤ 10000 + 13000 * i ∧ Hid (W.ownsRow w.heap.size 5 1 v5 (snapB ks gs fr f T ((R.take i).map entR)).length (Lib.byteCells (snapB ks gs fr f T ((R.take i).map entR)))) ∧ Hid (Rk w.heap.size W ks f T (.slice a7 R.length k7) R) ∧ Hid (Below w.heap.size w W)) (fun _ v26 _ => R.length - (intOf v26).toNat)
  case atStart => exact ⟨0, Nat.zero_le _, rfl, by simp only [snapB, List.take_zero, List.map_nil, List.flatMap_nil, List.append_nil]; omega, O7, HRK, HB6⟩
  case round =>
    obtain ⟨i, hil, rfl, hlen, HO, HK, HB⟩ := hrel
    by_cases hlt : i < R.length
    · have t1 : (i : Int) < (R.length : Int) := by omega
      obtain ⟨g, c', e', -, -⟩ := own_form HK.out.1 (by omega)
      simp only [Value.slice.injEq] at e'
      obtain ⟨rfl, -, rfl⟩ := e'
      obtain ⟨y1, y2, y3⟩ := rz_at R i hlt
      have e1 := HK.out.1.cellAt (i * 3) (by omega)
      have e2 := HK.out.1.cellAt (i * 3 + 1) (by omega)
      have e3 := HK.out.1.cellAt (i * 3 + 2) (by omega)
      rw [y1] at e1
      rw [y2] at e2
      rw [y3] at e3
      have hr := HK.out.2 _ (List.getElem_mem hlt)
      have hin := HRI.out _ (List.getElem_mem hlt)
      have HPU : Hid (snapB ks gs fr f T ((R.take (i + 1)).map entR) = snapB ks gs fr f T ((R.take i).map entR) ++ contB ks f T (entR R[i])) := by
        unfold snapB Hid
        rw [fm_rows R i hlt, ← List.append_assoc]
      generalize snapB ks gs fr f T ((R.take i).map entR) = b0 at *
      generalize R[i] = r at *
      obtain ⟨x, y, av, nv, cv⟩ := r
      have BP : Hid (Below w.heap.size w (wr.alloc (.cells #[.int .i64 x, .int .i64 y, .slice av nv cv] 87))) := below_on HB.out (below_alloc wr _)
      obtain ⟨jw, l1, l2⟩ := JW.out (wr.alloc (.cells #[.int .i64 x, .int .i64 y, .slice av nv cv] 87)) w.heap.size (x, y, av, nv, cv) BP.out (hr.grown (grown_later (below_alloc wr _)) (fun k e => by cases e)) hin
      have J8 := hide jw
      simp only [rtV] at J8
      generalize contB ks f T (entR (x, y, av, nv, cv)) = l8 at *
      obtain ⟨a0, n0, c0, rfl⟩ := own_slice HO.out
      clear hr hin jw y1 y2 y3
      go_wp2_with fail
      refine J8.out.mono ?_
      rintro e w8 ⟨v8, rfl, o8, hb8⟩
      obtain ⟨n8, hn8⟩ : ∃ n, n = l8.length := ⟨_, rfl⟩
      rw [← hn8] at o8 l1 l2
      obtain ⟨g8, c8, rfl, -, -⟩ := own_form o8 (by omega)
      have HN8 := hide hn8
      have O8 : Hid (∀ j u, (Lib.byteCells l8)[j]? = some u → w8.cell? ((⟨g8, 0, none⟩ : Addr).add j) = some u) := fun j u hj => by
        have hj2 : j < l8.length := by
          have := (List.getElem?_eq_some_iff.1 hj).1
          rwa [Lib.byteCells_length] at this
        rw [add_at, Nat.zero_add, o8.cellAt j (by omega)]
        exact hj
      have OB : Hid (w8.ownsRow w.heap.size 5 1 (.slice a0 n0 c0) b0.length (Lib.byteCells b0)) := own_later (own_later HO.out (below_alloc wr _)) hb8
      have HK8 : Hid (Rk w.heap.size w8 ks f T (.slice (some ⟨g, 0, none⟩) R.length k7) R) := (HK.out.later (below_alloc wr _)).later hb8
      have HB8 := hide (below_on BP.out hb8)
      clear hn8 o8 hb8 J8 HK HB HO BP
      go_wp2_with (at_builtin; refine wpList_append_own_at _ rfl _ _ 51 rfl w.heap.size 5 i0 (.int .u8 0) 1 1 Tryz.underlying51 hi0 hz0 hz1 hz2 rfl (by decide) _ b0.length (Lib.byteCells b0) rfl OB.out ⟨g8, 0, none⟩ n8 c8 (Lib.byteCells l8) rfl ?d1 O8.out (Pak.byteCells_one l8) ?d2 ?d3 HB8.out.size ?_)
      case d1 => rw [Lib.byteCells_length, ← HN8.out]; omega
      case d2 => unfold maxLen; omega
      case d3 => omega
      intro v9 w9 o9 hg9 _ _
      have O9 : Hid (w9.ownsRow w.heap.size 5 1 v9 (snapB ks gs fr f T ((R.take (i + 1)).map entR)).length (Lib.byteCells (snapB ks gs fr f T ((R.take (i + 1)).map entR)))) := by
        rw [HPU.out, List.length_append, Lib.byteCells_append, ← HN8.out]
        exact o9
      have HL9 : Hid ((snapB ks gs fr f T ((R.take (i + 1)).map entR)).length ≤ 10000 + 13000 * (i + 1)) := by
        rw [HPU.out, List.length_append, ← HN8.out]
        unfold Hid
        omega
      have HK9 := hide (HK8.out.grown OB.out hg9)
      have HB9 : Hid (Below w.heap.size w w9) := HB8.out.grown hg9 HB8.out.size (fun k e => (OB.out.lt k e).1)
      obtain ⟨a9, n9, c9, rfl⟩ := own_slice O9.out
      clear o9 hg9 OB O8 HK8 HB8 HPU
      go_wp2_with fail
      go_roundw
      case rel => exact ⟨i + 1, by omega, by go_num, HL9.out, O9, HK9, HB9⟩
      case measure => simp [intOf]; omega
    · obtain rfl : i = R.length := by omega
      have t1 : ¬ (R.length : Int) < (R.length : Int) := by omega
      have ho := HO.out
      rw [List.take_length] at ho
      have HO9 := hide ho
      clear ho HO hlen
      obtain ⟨a9, n9, c9, rfl⟩ := own_slice HO9.out
      go_wp2_with fail
      go_ret
      exact ⟨_, rfl, ⟨_, HE.out, HO9.out⟩, HB.out⟩
end
end Go.Proofs.YtafmiolehlagkaaGreat

/-
  World: Add, its walk.
-/
namespace Go.Proofs.YtafmiolehlagkaaGreat
open Go.RowKit
set_option maxRecDepth 100000
section
variable {w w' : World} {own : Nat → Nat} {gw gp gm gt M M' : Nat} {vk : Value} {ks : List Kind} {gs fr gs' fr' : List Nat} {f f' : Int × Int → Option Nat} {q q' : Nat → Option Nat} {T T' : Nat → Ts}
/-- What Add leaves. -/
def Added (w w' : World) (own : Nat → Nat) (gw : Nat) (vk : Value) (gp gm gt M : Nat) (ks : List Kind) (gs fr : List Nat) (f : Int × Int → Option Nat) (q : Nat → Option Nat) (T : Nat → Ts) (e : Int × Int) (s i : Nat) (k : Nat) (vals : List Int) : Prop :=
  ∃ (vals' : List Int) (g : Nat) (own' : Nat → Nat), Wx 0 w' own' gw vk gp gm gt (M + 4) ks gs fr (fun y => if y = e then some (s ||| 2 ^ k) else if y = e then none else f y) (fun y => if y = s ||| 2 ^ k then some g else lessQ q T s y) (moreT (lessQ q T s) (lessT T s i) (s ||| 2 ^ k) e vals') ∧ Wk own own' w w' ∧ Wi ks (fun y => if y = e then some (s ||| 2 ^ k) else if y = e then none else f y) (fun y => if y = s ||| 2 ^ k then some g else lessQ q T s y) (moreT (lessQ q T s) (lessT T s i) (s ||| 2 ^ k) e vals') ∧ vals'.length = fsum ks (s ||| 2 ^ k) 1 ∧ ∀ r, r ∈ partsL ks (s ||| 2 ^ k) 1 vals' ↔ r ∈ partsL ks s 1 (rowOf (T s).2 i) ∨ r = (k, vals)
theorem infoPt : (Tryz.prog.info? 32).map (fun i => (i.zero, i.size, i.bytes)) = some (some (.agg #[.int .i64 0, .slice none 0 0]), 2, 32) := by kernel_rfl
set_option maxHeartbeats 8000000 in
theorem wadd_any (h : Wx 0 w own gw vk gp gm gt M ks gs fr f q T) (hw : Wi ks f q T) (a b x : Int) (hib : InB (a, b)) (hks : ks.length ≤ 12) (hk4 : ∀ x ∈ ks, x.2.length ≤ 4) (s g i : Nat) (hf : f (a, b) = some s) (hq : q s = some g) (hi : i < (T s).1.length) (hx : (T s).1[i] = (a, b)) (hcnt : ∀ E : List (Int × Int), E.Nodup → (∀ e ∈ E, (f e).isSome = true) → E.length ≤ 200) (hM : M ≤ 800000)
    (av : Option Addr) (nv cv : Nat) (vals : List Int) (hvs : Iz w (.slice av nv cv) vals) (hav : av = none → (nv, cv) = (0, 0)) (hv0 : ∀ k, (Value.slice av nv cv).ownBlock = some k → own k = 0 ∧ k < w.heap.size) (hl : livesOf gs fr a b = true) (hz : comeS ks s x nv = 0) :
    Calls Tryz.prog 27 #[.pointer (some ⟨gw, 0, none⟩), .agg #[.int .i64 a, .int .i64 b], .agg #[.int .i64 x, .slice av nv cv]] w fun e w' => e = .returned (.int .i64 0) ∧ Added w w' own gw vk gp gm gt M ks gs fr f q T (a, b) s i x.toNat vals := by
  obtain ⟨i0, hi0, hz0, hz1, hz2⟩ := info_parts infoPt
  obtain ⟨⟨hs, hsb⟩, hcol, -, -, -, -⟩ := hw.2 s g hq
  obtain ⟨w2, hw2⟩ : ∃ X, X = (w.alloc (.cells #[.int .i64 a, .int .i64 b] 29)).alloc (.cells #[.int .i64 x, .slice av nv cv] 32) := ⟨_, rfl⟩
  have B2 : Hid (Below w.heap.size w w2) := hw2 ▸ below_on (below_alloc w _) (below_alloc _ _)
  have H2 := hide (h.later B2.out)
  have J1 := hide (wlives_any H2.out a b)
  rw [hl] at J1
  have hx1 : w2.heap[w.heap.size]? = some (.cells #[.int .i64 a, .int .i64 b] 29 (0, 0)) := by
    rw [hw2]
    exact ((below_alloc _ _).block w.heap.size (by simp)).trans (heap_alloc_new w _)
  have hx2 : w2.heap[w.heap.size + 1]? = some (.cells #[.int .i64 x, .slice av nv cv] 32 (0, 0)) := by
    have := heap_alloc_new (w.alloc (.cells #[.int .i64 a, .int .i64 b] 29)) (.cells #[.int .i64 x, .slice av nv cv] 32)
    rw [hw2]
    simpa using this
  have HW : Hid (∀ W, Below w2.heap.size w2 W → (Instr.lookup 106 (.map (some gm)) (.agg #[.int .i64 a, .int .i64 b]) false).run Tryz.prog W = .ok (.int .i64 (s : Int)) W ∧ W.cell? ⟨gw, 2, none⟩ = some (.map (some gm)) ∧ W.cell? ⟨w.heap.size, 0, none⟩ = some (.int .i64 a) ∧ W.cell? ⟨w.heap.size, 1, none⟩ = some (.int .i64 b) ∧ W.cell? ⟨w.heap.size + 1, 0, none⟩ = some (.int .i64 x) ∧ W.cell? ⟨w.heap.size + 1, 1, none⟩ = some (.slice av nv cv)) := fun W hW => by
    have hx := H2.out.later hW
    have h5 := (hW.block _ (lt_of_block hx2)).trans hx2
    refine ⟨hx.mp.look1 a b hib hf, hx.cells.2.2.1, (kx_cells hx1 hW).1, (kx_cells hx1 hW).2, ?_, ?_⟩ <;> rw [cell_of_row W _ _ _ 32 (0, 0) h5] <;> rfl
  have JM : Hid (∀ W, Below w2.heap.size w2 W → Calls Tryz.prog 74 #[.pointer (some ⟨gw, 0, none⟩), .int .i64 (s : Int), .agg #[.int .i64 x, .slice av nv cv]] W fun e w' => e = .returned (.int .i64 0) ∧ Below W.heap.size W w') := fun W hW => by
    have hx := H2.out.later hW
    have := maycome_any hx.2.2.1 hx.2.2.2.1.kr hks s hs x av nv cv
    rw [hz] at this
    exact this
  have JP : Hid (∀ W, Below w2.heap.size w2 W → Calls Tryz.prog 78 #[.pointer (some ⟨gw, 0, none⟩), .agg #[.int .i64 a, .int .i64 b]] W fun e w' => ∃ v, e = .returned v ∧ ∃ L, L.length ≤ 12 ∧ w'.ownsRow W.heap.size 32 2 v L.length (pz L) ∧ Pv W.heap.size w' L (partsL ks s 1 (rowOf (T s).2 i)) ∧ Below W.heap.size W w') := fun W hW => by
    refine (parts_any (H2.out.later hW) a b hib hks s g i hf hq hs hi hx hcol).mono ?_
    rintro e w' ⟨v, rfl, L, l1, l2, l3⟩
    refine ⟨v, rfl, L, ?_, l1, l2, l3⟩
    rw [l2.1]
    have hn := partsL_pair ks s 1 (rowOf (T s).2 i)
    have hn2 : ((partsL ks s 1 (rowOf (T s).2 i)).map (fun r => r.1 - 1)).Nodup := List.pairwise_map.2 (List.Pairwise.imp_of_mem (fun {x y} hx hy hlt => by
      have a1 := partsL_mem ks s 1 _ x hx
      have a2 := partsL_mem ks s 1 _ y hy
      omega) hn)
    have := nodup_len 12 _ hn2 (fun y hy => by
      obtain ⟨r, hr, rfl⟩ := List.mem_map.1 hy
      have := partsL_mem ks s 1 _ r hr
      omega)
    rwa [List.length_map] at this
  have JD : Hid (∀ (W : World) (v : Value) (L : List Pt), Ap1 w W ks s (rowOf (T s).2 i) (x, av, nv, cv) v L → W.heap[w.heap.size]? = some (.cells #[.int .i64 a, .int .i64 b] 29 (0, 0)) → Calls Tryz.prog 80 #[.pointer (some ⟨gw, 0, none⟩), .agg #[.int .i64 a, .int .i64 b]] W fun e W' => e = .returned (.tuple #[]) ∧ Hid (Calls Tryz.prog 67 #[.pointer (some ⟨gw, 0, none⟩), .agg #[.int .i64 a, .int .i64 b], v] W' fun e w' => e = .returned (.tuple #[]) ∧ Added w w' own gw vk gp gm gt M ks gs fr f q T (a, b) s i x.toNat vals) ∧ W'.cell? ⟨w.heap.size, 0, none⟩ = some (.int .i64 a) ∧ W'.cell? ⟨w.heap.size, 1, none⟩ = some (.int .i64 b)) := fun W v L hA hkx => by
    refine (drop_any (h.later hA.2.2) a b hib s g i hf hq hs hi hx (by omega)).mono ?_
    rintro e W' ⟨rfl, own1, d1, d2⟩
    have hnl : ¬ (rel own w 0 w.heap.size ≠ 0) := fun e => e (rel_new (Nat.le_refl _))
    refine ⟨rfl, ?_, kx_cells (d2.mv.at hkx hnl) (Below.refl _ W')⟩
    have hc2 : ∀ E : List (Int × Int), E.Nodup → (∀ e ∈ E, ((fun y => if y = (a, b) then none else f y) e).isSome = true) → E.length < 200 := fun E e1 e2 => by
      have := hcnt (E ++ [(a, b)]) (by
        rw [List.nodup_append]
        refine ⟨e1, by simp, fun y hy z hz e => ?_⟩
        simp only [List.mem_singleton] at hz
        have := e2 y hy
        rw [e, hz] at this
        simp at this) (fun y hy => by
        rcases List.mem_append.1 hy with hy | hy
        · have := e2 y hy
          by_cases c : y = (a, b)
          · simp [c] at this
          · simpa [c] using this
        · rw [List.mem_singleton.1 hy, hf]; rfl)
      rw [List.length_append, List.length_singleton] at this
      omega
    exact hA.put ((rowOf_len _ _).trans hcol) hsb hz hks hk4 hvs hav hv0 d1 d2 (hw.drop hf hi hx) a b hib (if_pos rfl) hc2 (by omega)
  have HSZ : Hid (w.heap.size ≤ w2.heap.size) := B2.out.size
  have X1 := hide hx1
  have XP := hide hx2
  generalize rowOf (T s).2 i = row at *
  clear h hz hf hl hx1 hx2 H2 hw hq hi hx hcnt hvs hv0 hcol hsb hib hk4
  go_enter Tryz.func27, Tryz.ntmps27
  go_wp2_with fail
  rw [← hw2]
  obtain ⟨kx, hkx⟩ : ∃ k, k = w.heap.size := ⟨_, rfl⟩
  obtain ⟨kp, hkp⟩ : ∃ k, k = w.heap.size + 1 := ⟨_, rfl⟩
  have HKX : Hid (w.heap.size = kx) := hkx.symm
  rw [← hkp] at HW XP ⊢
  rw [← hkx] at HW X1 ⊢
  rw [show w.heap.size = kx from hkx.symm] at JD
  clear hkx hkp hw2
  refine J1.out.mono ?_
  rintro e w3 ⟨rfl, hb3⟩
  have HB3 := hide hb3
  clear hb3 J1
  have HB4 := hide (below_on HB3.out (below_drew w3))
  obtain ⟨hlk, c2, p0, p1, p2, p3⟩ := HW.out w3.drew HB4.out
  have J2 := hide (JM.out w3.drew HB4.out)
  go_upto_region 3 with fail
  refine wp_region_noPanic ?_
  refine wp_region_late (J := fun i => i != 99) (S := fun W => W.cell? ⟨gw, 2, none⟩ = some (.map (some gm)) ∧ W.cell? ⟨kx, 0, none⟩ = some (.int .i64 a) ∧ W.cell? ⟨kx, 1, none⟩ = some (.int .i64 b) ∧ W.cell? ⟨kp, 0, none⟩ = some (.int .i64 x) ∧ W.cell? ⟨kp, 1, none⟩ = some (.slice av nv cv)) (by kernel_rfl) ⟨c2, p0, p1, p2, p3⟩ (fun hHeld => ?_)
  refine' wpAnyJ_takeW (i := 0) (oi := { dst := some 13, op := Op.move (Operand.tmp 0), type := 37, pos := "world.go:65", after := #[], guard := none }) (v := _) rfl (by kernel_rfl) (by kernel_rfl) (by kernel_rfl) (fun _ _ _ h => h) (Or.inl ⟨by rfl, ?hyA1⟩) ?reA1
  case hyA1 => (intro W hSw; (try dsimp only at hSw); go_simp; try with_reducible rfl)
  try simp only [Act.put, List.setIfInBounds_toArray, List.set_cons_zero, List.set_cons_succ]
  refine' wpAnyJ_takeW (i := 1) (oi := { dst := some 14, op := Op.move (Operand.tmp 0), type := 37, pos := "world.go:65", after := #[], guard := none }) (v := _) rfl (by kernel_rfl) (by kernel_rfl) (by kernel_rfl) (fun _ _ _ h => h) (Or.inl ⟨by rfl, ?hyA2⟩) ?reA2
  case hyA2 => (intro W hSw; (try dsimp only at hSw); go_simp; try with_reducible rfl)
  try simp only [Act.put, List.setIfInBounds_toArray, List.set_cons_zero, List.set_cons_succ]
  refine' wpAnyJ_takeW (i := 2) (oi := { dst := some 15, op := Op.nilCheck (Operand.tmp 14), type := 0, pos := "world.go:65", after := #[{ on := 1, ground := Ground.data }], guard := none }) (v := _) rfl (by kernel_rfl) (by kernel_rfl) (by kernel_rfl) (fun _ _ _ h => h) (Or.inl ⟨by rfl, ?hyA3⟩) ?reA3
  case hyA3 => (intro W hSw; (try dsimp only at hSw); go_simp; try with_reducible rfl)
  try simp only [Act.put, List.setIfInBounds_toArray, List.set_cons_zero, List.set_cons_succ]
  refine' wpAnyJ_takeW (i := 3) (oi := { dst := some 16, op := Op.fieldAddr 109 (Operand.tmp 15) 2, type := 0, pos := "world.go:65", after := #[{ on := 2, ground := Ground.data }], guard := none }) (v := _) rfl (by kernel_rfl) (by kernel_rfl) (by kernel_rfl) (fun _ _ _ h => h) (Or.inl ⟨by rfl, ?hyA4⟩) ?reA4
  case hyA4 => (intro W hSw; (try dsimp only at hSw); go_simp; try with_reducible rfl)
  try simp only [Act.put, List.setIfInBounds_toArray, List.set_cons_zero, List.set_cons_succ]
  refine' wpAnyJ_take (i := 4) (oi := { dst := some 17, op := Op.load 106 (Operand.tmp 16), type := 106, pos := "world.go:65", after := #[{ on := 3, ground := Ground.data }], guard := none }) (v := _) rfl (by kernel_rfl) (by kernel_rfl) (by kernel_rfl) (by kernel_rfl) (fun _ _ _ h => h) (Or.inl ⟨by rfl, ?hyA5⟩) (by assumption) ?reA5
  case hyA5 => (intro W hSw; (try dsimp only at hSw); go_simp; try with_reducible rfl)
  try simp only [Act.put, List.setIfInBounds_toArray, List.set_cons_zero, List.set_cons_succ]
  refine' wpAnyJ_take (i := 5) (oi := { dst := some 18, op := Op.load 29 (Operand.tmp 4), type := 29, pos := "world.go:65", after := #[], guard := none }) (v := _) rfl (by kernel_rfl) (by kernel_rfl) (by kernel_rfl) (by kernel_rfl) (fun _ _ _ h => h) (Or.inl ⟨by rfl, ?hyA6⟩) (by assumption) ?reA6
  case hyA6 => (intro W hSw; (try dsimp only at hSw); go_simp; try with_reducible rfl)
  try simp only [Act.put, List.setIfInBounds_toArray, List.set_cons_zero, List.set_cons_succ]
  refine' wpAnyJ_take (i := 7) (oi := { dst := some 20, op := Op.load 32 (Operand.tmp 5), type := 32, pos := "world.go:65", after := #[], guard := none }) (v := _) rfl (by kernel_rfl) (by kernel_rfl) (by kernel_rfl) (by kernel_rfl) (fun _ _ _ h => h) (Or.inl ⟨by rfl, ?hyA7⟩) (by assumption) ?reA7
  case hyA7 => (intro W hSw; (try dsimp only at hSw); go_simp; try with_reducible rfl)
  try simp only [Act.put, List.setIfInBounds_toArray, List.set_cons_zero, List.set_cons_succ]
  refine wpAnyJ_ready (rs := [6]) (by kernel_rfl) (by simp) ?_
  refine AllReadyJ.cons (o := { dst := some 19, op := Op.lookup 106 (Operand.tmp 17) (Operand.tmp 18) false, type := 3, pos := "world.go:65", after := #[{ on := 4, ground := Ground.data }, { on := 5, ground := Ground.data }], guard := none }) rfl (fun K hK => ?_) AllReadyJ.nil
  go_simp
  refine hK.out _ _ (fun _ _ => ⟨c2, p0, p1, p2, p3⟩) ?_
  clear hK K
  try simp only [Act.put, List.setIfInBounds_toArray, List.set_cons_zero, List.set_cons_succ]
  refine wpAnyJ_ready (rs := [8]) (by kernel_rfl) (by simp) ?_
  refine AllReadyJ.cons (o := { dst := some 21, op := Op.call { callee := Callee.value (Operand.func 74), args := #[Operand.tmp 13, Operand.tmp 19, Operand.tmp 20], argTypes := #[37, 3, 32] }, type := 61, pos := "world.go:65", after := #[{ on := 0, ground := Ground.data }, { on := 6, ground := Ground.data }, { on := 7, ground := Ground.data }], guard := none }) rfl (fun K hK => ?_) AllReadyJ.nil
  go_simp
  go_at_call 74
  refine J2.out.mono ?_
  rintro e w5 ⟨rfl, hb5⟩
  have HB5 := hide (below_on HB4.out hb5)
  obtain ⟨-, y2, y3, y4, y5, y6⟩ := HW.out w5 HB5.out
  go_simp
  refine hK.out _ _ (fun _ _ => ⟨y2, y3, y4, y5, y6⟩) ?_
  clear hK K hb5
  try simp only [Act.put, List.setIfInBounds_toArray, List.set_cons_zero, List.set_cons_succ]
  refine' wpAnyJ_takeW (i := 9) (oi := { dst := some 7, op := Op.assign (Operand.tmp 21), type := 61, pos := "world.go:65", after := #[{ on := 8, ground := Ground.data }, { on := 8, ground := Ground.chain }, { on := 0, ground := Ground.phase }, { on := 1, ground := Ground.phase }, { on := 2, ground := Ground.phase }, { on := 3, ground := Ground.phase }, { on := 4, ground := Ground.phase }, { on := 5, ground := Ground.phase }, { on := 6, ground := Ground.phase }, { on := 7, ground := Ground.phase }, { on := 8, ground := Ground.phase }], guard := none }) (v := _) rfl (by kernel_rfl) (by kernel_rfl) (by kernel_rfl) (fun _ _ _ h => h) (Or.inl ⟨by rfl, ?hyA8⟩) ?reA8
  case hyA8 => (intro W hSw; (try dsimp only at hSw); go_simp; try with_reducible rfl)
  try simp only [Act.put, List.setIfInBounds_toArray, List.set_cons_zero, List.set_cons_succ]
  refine wpAnyJ_done (by kernel_rfl) ?_ _
  refine NoPanic.normal ?_
  clear hlk c2 p0 p1 p2 p3 y2 y3 y4 y5 y6 J2 JM HB4 HB3
  have HB6 := hide (below_on HB5.out (below_drew w5))
  obtain ⟨-, -, p0, p1, p2, p3⟩ := HW.out w5.drew HB6.out
  have J6 := hide (JP.out w5.drew HB6.out)
  have J7 := hide (JP.out (w5.drew.alloc (.cells #[.int .i64 x, .slice av nv cv] 32)) (below_on HB6.out (below_alloc _ _)))
  have HBa := hide (below_on HB6.out (below_alloc w5.drew (.cells #[.int .i64 x, .slice av nv cv] 32)))
  go_upto_region 6 with fail
  refine wp_region_noPanic ?_
  refine wp_region_late (J := fun i => i != 99) (S := fun W => W.cell? ⟨kx, 0, none⟩ = some (.int .i64 a) ∧ W.cell? ⟨kx, 1, none⟩ = some (.int .i64 b) ∧ W.cell? ⟨kp, 0, none⟩ = some (.int .i64 x) ∧ W.cell? ⟨kp, 1, none⟩ = some (.slice av nv cv)) (by kernel_rfl) ⟨p0, p1, p2, p3⟩ (fun hHeld => ?_)
  refine' wpAnyJ_takeW (i := 0) (oi := { dst := some 25, op := Op.move (Operand.tmp 0), type := 37, pos := "world.go:68", after := #[], guard := none }) (v := _) rfl (by kernel_rfl) (by kernel_rfl) (by kernel_rfl) (fun _ _ _ h => h) (Or.inl ⟨by rfl, ?hyB1⟩) ?reB1
  case hyB1 => (intro W hSw; (try dsimp only at hSw); go_simp; try with_reducible rfl)
  try simp only [Act.put, List.setIfInBounds_toArray, List.set_cons_zero, List.set_cons_succ]
  refine' wpAnyJ_take (i := 1) (oi := { dst := some 26, op := Op.load 29 (Operand.tmp 4), type := 29, pos := "world.go:68", after := #[], guard := none }) (v := _) rfl (by kernel_rfl) (by kernel_rfl) (by kernel_rfl) (by kernel_rfl) (fun _ _ _ h => h) (Or.inl ⟨by rfl, ?hyB2⟩) (by assumption) ?reB2
  case hyB2 => (intro W hSw; (try dsimp only at hSw); go_simp; try with_reducible rfl)
  try simp only [Act.put, List.setIfInBounds_toArray, List.set_cons_zero, List.set_cons_succ]
  refine' wpAnyJ_take (i := 3) (oi := { dst := some 28, op := Op.load 32 (Operand.tmp 5), type := 32, pos := "world.go:68", after := #[], guard := none }) (v := _) rfl (by kernel_rfl) (by kernel_rfl) (by kernel_rfl) (by kernel_rfl) (fun _ _ _ h => h) (Or.inl ⟨by rfl, ?hyB3⟩) (by assumption) ?reB3
  case hyB3 => (intro W hSw; (try dsimp only at hSw); go_simp; try with_reducible rfl)
  try simp only [Act.put, List.setIfInBounds_toArray, List.set_cons_zero, List.set_cons_succ]
  refine wpAnyJ_ready (rs := [2, 4]) (by kernel_rfl) (by simp) ?_
  refine AllReadyJ.cons (o := { dst := some 27, op := Op.call { callee := Callee.value (Operand.func 78), args := #[Operand.tmp 25, Operand.tmp 26], argTypes := #[37, 29] }, type := 33, pos := "world.go:68", after := #[{ on := 0, ground := Ground.data }, { on := 1, ground := Ground.data }], guard := none }) rfl (fun K hK => ?_) ?_
  · go_simp
    go_at_call 78
    refine J6.out.mono ?_
    rintro e w7 ⟨v7, rfl, L, hL12, ho7, hv7, hb7⟩
    obtain ⟨a7, c7, rfl⟩ := own_len ho7
    have HB7 := hide (below_on HB6.out hb7)
    obtain ⟨-, -, y3, y4, y5, y6⟩ := HW.out w7 HB7.out
    have HBB : Hid (w2.heap.size ≤ w5.drew.heap.size) := HB6.out.size
    have HO7 := hide ho7
    have HV7 := hide hv7
    have HL7 := hide (below_on B2.out HB6.out).size
    clear ho7 hv7 hb7
    go_simp
    refine hK.out _ _ (fun _ _ => ⟨y3, y4, y5, y6⟩) ?_
    clear hK K y3 y4 y5 y6
    try simp only [Act.put, List.setIfInBounds_toArray, List.set_cons_zero, List.set_cons_succ]
    refine wpAnyJ_ready (rs := [4]) (by kernel_rfl) (by simp) ?_
    refine AllReadyJ.cons (o := { dst := some 29, op := Op.buildSlice 33 1 #[(0, Operand.tmp 28)], type := 33, pos := "world.go:68", after := #[{ on := 3, ground := Ground.data }], guard := none }) rfl (fun K hK => ?_) AllReadyJ.nil
    go_simp
    refine hK.out _ _ (fun _ _ => (HW.out _ (below_on HB7.out (below_alloc w7 (.cells #[.int .i64 x, .slice av nv cv] 32)))).2.2) ?_
    clear hK K
    try simp only [Act.put, List.setIfInBounds_toArray, List.set_cons_zero, List.set_cons_succ]
    refine wpAnyJ_ready (rs := [5]) (by kernel_rfl) (by simp) ?_
    refine AllReadyJ.cons (o := { dst := some 30, op := Op.call { callee := Callee.builtin Builtin.append, args := #[Operand.tmp 27, Operand.tmp 29], argTypes := #[33, 33] }, type := 33, pos := "world.go:68", after := #[{ on := 2, ground := Ground.data }, { on := 4, ground := Ground.data }, { on := 2, ground := Ground.chain }], guard := none }) rfl (fun K hK => ?_) AllReadyJ.nil
    have HO8 : Hid ((w7.alloc (.cells #[.int .i64 x, .slice av nv cv] 32)).ownsRow w.heap.size 32 2 (.slice a7 L.length c7) L.length (pz L)) := own_lower (own_later HO7.out (below_alloc _ _)) HL7.out
    have HB8 : Hid (Below w7.heap.size w7 (w7.alloc (.cells #[.int .i64 x, .slice av nv cv] 32))) := (below_alloc w7 (.cells #[.int .i64 x, .slice av nv cv] 32))
    refine step_append_lies _ rfl (.tmp 27) (.tmp 29) 33 rfl w.heap.size 32 i0 (.agg #[.int .i64 0, .slice none 0 0]) 2 32 Tryz.underlying33 hi0 hz0 hz1 hz2 rfl (by decide) (.slice a7 L.length c7) L.length (pz L) (by simp [Act.eval]) HO8.out ⟨w7.heap.size, 0, none⟩ 1 1 [.int .i64 x, .slice av nv cv] (by simp [Act.eval]) rfl (by intro j u hj; match j, hj with | 0, hj => simp at hj; subst hj; simp [Addr.add] | 1, hj => simp at hj; subst hj; simp [Addr.add]) (by intro u hu; simp at hu; rcases hu with rfl | rfl <;> rfl) (by omega) (by unfold maxLen; omega) (by omega) (by have := HB7.out.size; have := HB8.out.size; have := HSZ.out; omega) _ rfl ?_
    intro g9 c9 w9 ho9 hg9 ha9 _
    have HA9 : Hid (Ap1 w w9 ks s row (x, av, nv, cv) (.slice (some ⟨g9, 0, none⟩) (L.length + 1) c9) L) := Ap1.made HO7.out HV7.out (below_on B2.out HB7.out) HL7.out HB8.out ho9 hg9
    have X9 : Hid (w9.heap[kx]? = some (.cells #[.int .i64 a, .int .i64 b] 29 (0, 0))) := (hg9.block kx (by have := lt_of_block X1.out; have := HB7.out.size; have := HB8.out.size; omega) (fun e => by have := (HO7.out.lt kx e.symm).1; have := lt_of_block X1.out; have := HBB.out; omega)).trans ((HB8.out.block kx (by have := lt_of_block X1.out; have := HB7.out.size; omega)).trans ((HB7.out.block kx (lt_of_block X1.out)).trans X1.out))
    have hc9 : w9.cell? ⟨kx, 0, none⟩ = some (.int .i64 a) ∧ w9.cell? ⟨kx, 1, none⟩ = some (.int .i64 b) := kx_cells X9.out (Below.refl _ w9)
    have HP9 : Hid (w9.cell? ⟨kp, 0, none⟩ = some (.int .i64 x) ∧ w9.cell? ⟨kp, 1, none⟩ = some (.slice av nv cv)) := (fun (hz : w9.heap[kp]? = some (.cells #[.int .i64 x, .slice av nv cv] 32 (0, 0))) => ⟨by rw [cell_of_row w9 _ _ _ 32 (0, 0) hz]; rfl, by rw [cell_of_row w9 _ _ _ 32 (0, 0) hz]; rfl⟩) ((hg9.block kp (by have := lt_of_block XP.out; have := HB7.out.size; have := HB8.out.size; omega) (fun e => by have := (HO7.out.lt kp e.symm).1; have := lt_of_block XP.out; have := HBB.out; omega)).trans ((HB8.out.block kp (by have := lt_of_block XP.out; have := HB7.out.size; omega)).trans ((HB7.out.block kp (lt_of_block XP.out)).trans XP.out)))
    clear ho9 hg9 ha9 HO8
    refine hK.out _ _ (fun _ _ => ⟨hc9.1, hc9.2, HP9.out.1, HP9.out.2⟩) ?_
    clear hK K
    try simp only [Act.put, List.setIfInBounds_toArray, List.set_cons_zero, List.set_cons_succ]
    refine' wpAnyJ_takeW (i := 6) (oi := { dst := some 8, op := Op.assign (Operand.tmp 30), type := 33, pos := "world.go:68", after := #[{ on := 5, ground := Ground.data }, { on := 5, ground := Ground.chain }, { on := 0, ground := Ground.phase }, { on := 1, ground := Ground.phase }, { on := 2, ground := Ground.phase }, { on := 3, ground := Ground.phase }, { on := 4, ground := Ground.phase }, { on := 5, ground := Ground.phase }], guard := none }) (v := _) rfl (by kernel_rfl) (by kernel_rfl) (by kernel_rfl) (fun _ _ _ h => h) (Or.inl ⟨by rfl, ?hyB4⟩) ?reB4
    case hyB4 => (intro W hSw; (try dsimp only at hSw); go_simp; try with_reducible rfl)
    try simp only [Act.put, List.setIfInBounds_toArray, List.set_cons_zero, List.set_cons_succ]
    refine wpAnyJ_done (by kernel_rfl) ?_ _
    refine NoPanic.normal ?_
    obtain ⟨z0, z1⟩ := hc9
    have J9 := hide (JD.out w9 _ L HA9.out X9.out)
    clear HP9 HA9 X9 HB7 HO7 HV7 HL7 HB8 J6 J7 JD JP HW p0 p1 p2 p3
    go_wp2_with fail
    refine J9.out.mono ?_
    rintro e w10 ⟨rfl, J10, z0', z1'⟩
    clear J9 z0 z1
    go_wp2_with fail
    refine J10.out.mono ?_
    rintro e w11 ⟨rfl, HE⟩
    have HEE := hide HE
    clear HE J10
    go_wp2_with fail
    go_ret
    exact ⟨rfl, HEE.out⟩
  refine AllReadyJ.cons (o := { dst := some 29, op := Op.buildSlice 33 1 #[(0, Operand.tmp 28)], type := 33, pos := "world.go:68", after := #[{ on := 3, ground := Ground.data }], guard := none }) rfl (fun K hK => ?_) AllReadyJ.nil
  go_simp
  refine hK.out _ _ (fun _ _ => (HW.out _ HBa.out).2.2) ?_
  clear hK K
  try simp only [Act.put, List.setIfInBounds_toArray, List.set_cons_zero, List.set_cons_succ]
  refine wpAnyJ_ready (rs := [2]) (by kernel_rfl) (by simp) ?_
  refine AllReadyJ.cons (o := { dst := some 27, op := Op.call { callee := Callee.value (Operand.func 78), args := #[Operand.tmp 25, Operand.tmp 26], argTypes := #[37, 29] }, type := 33, pos := "world.go:68", after := #[{ on := 0, ground := Ground.data }, { on := 1, ground := Ground.data }], guard := none }) rfl (fun K hK => ?_) AllReadyJ.nil
  go_simp
  go_at_call 78
  refine J7.out.mono ?_
  rintro e w7 ⟨v7, rfl, L, hL12, ho7, hv7, hb7⟩
  obtain ⟨a7, c7, rfl⟩ := own_len ho7
  have HB7 := hide (below_on HBa.out hb7)
  obtain ⟨-, -, y3, y4, y5, y6⟩ := HW.out w7 HB7.out
  have HBB : Hid (w2.heap.size ≤ (w5.drew.alloc (.cells #[.int .i64 x, .slice av nv cv] 32)).heap.size) := HBa.out.size
  have HO7 := hide ho7
  have HV7 := hide hv7
  have HL7 := hide (below_on B2.out HBa.out).size
  have HX7 : Hid (w7.heap[w5.heap.size]? = some (.cells #[.int .i64 x, .slice av nv cv] 32 (0, 0))) := (hb7.block w5.heap.size (by simp)).trans (heap_alloc_new w5.drew _)
  clear ho7 hv7 hb7
  go_simp
  refine hK.out _ _ (fun _ _ => ⟨y3, y4, y5, y6⟩) ?_
  clear hK K y3 y4 y5 y6
  try simp only [Act.put, List.setIfInBounds_toArray, List.set_cons_zero, List.set_cons_succ]
  refine wpAnyJ_ready (rs := [5]) (by kernel_rfl) (by simp) ?_
  refine AllReadyJ.cons (o := { dst := some 30, op := Op.call { callee := Callee.builtin Builtin.append, args := #[Operand.tmp 27, Operand.tmp 29], argTypes := #[33, 33] }, type := 33, pos := "world.go:68", after := #[{ on := 2, ground := Ground.data }, { on := 4, ground := Ground.data }, { on := 2, ground := Ground.chain }], guard := none }) rfl (fun K hK => ?_) AllReadyJ.nil
  have HO8 : Hid (w7.ownsRow w.heap.size 32 2 (.slice a7 L.length c7) L.length (pz L)) := own_lower (HO7.out) HL7.out
  have HB8 : Hid (Below w7.heap.size w7 w7) := (Below.refl _ w7)
  refine step_append_lies _ rfl (.tmp 27) (.tmp 29) 33 rfl w.heap.size 32 i0 (.agg #[.int .i64 0, .slice none 0 0]) 2 32 Tryz.underlying33 hi0 hz0 hz1 hz2 rfl (by decide) (.slice a7 L.length c7) L.length (pz L) (by simp [Act.eval]) HO8.out ⟨w5.heap.size, 0, none⟩ 1 1 [.int .i64 x, .slice av nv cv] (by simp [Act.eval]) rfl (fun j u hj => by rw [add_at, cell_of_row w7 _ _ _ 32 (0, 0) HX7.out]; simpa using hj) (by intro u hu; simp at hu; rcases hu with rfl | rfl <;> rfl) (by omega) (by unfold maxLen; omega) (by omega) (by have := HB7.out.size; have := HB8.out.size; have := HSZ.out; omega) _ rfl ?_
  intro g9 c9 w9 ho9 hg9 ha9 _
  have HA9 : Hid (Ap1 w w9 ks s row (x, av, nv, cv) (.slice (some ⟨g9, 0, none⟩) (L.length + 1) c9) L) := Ap1.made HO7.out HV7.out (below_on B2.out HB7.out) HL7.out HB8.out ho9 hg9
  have X9 : Hid (w9.heap[kx]? = some (.cells #[.int .i64 a, .int .i64 b] 29 (0, 0))) := (hg9.block kx (by have := lt_of_block X1.out; have := HB7.out.size; have := HB8.out.size; omega) (fun e => by have := (HO7.out.lt kx e.symm).1; have := lt_of_block X1.out; have := HBB.out; omega)).trans ((HB8.out.block kx (by have := lt_of_block X1.out; have := HB7.out.size; omega)).trans ((HB7.out.block kx (lt_of_block X1.out)).trans X1.out))
  have hc9 : w9.cell? ⟨kx, 0, none⟩ = some (.int .i64 a) ∧ w9.cell? ⟨kx, 1, none⟩ = some (.int .i64 b) := kx_cells X9.out (Below.refl _ w9)
  have HP9 : Hid (w9.cell? ⟨kp, 0, none⟩ = some (.int .i64 x) ∧ w9.cell? ⟨kp, 1, none⟩ = some (.slice av nv cv)) := (fun (hz : w9.heap[kp]? = some (.cells #[.int .i64 x, .slice av nv cv] 32 (0, 0))) => ⟨by rw [cell_of_row w9 _ _ _ 32 (0, 0) hz]; rfl, by rw [cell_of_row w9 _ _ _ 32 (0, 0) hz]; rfl⟩) ((hg9.block kp (by have := lt_of_block XP.out; have := HB7.out.size; have := HB8.out.size; omega) (fun e => by have := (HO7.out.lt kp e.symm).1; have := lt_of_block XP.out; have := HBB.out; omega)).trans ((HB8.out.block kp (by have := lt_of_block XP.out; have := HB7.out.size; omega)).trans ((HB7.out.block kp (lt_of_block XP.out)).trans XP.out)))
  clear ho9 hg9 ha9 HO8
  refine hK.out _ _ (fun _ _ => ⟨hc9.1, hc9.2, HP9.out.1, HP9.out.2⟩) ?_
  clear hK K
  try simp only [Act.put, List.setIfInBounds_toArray, List.set_cons_zero, List.set_cons_succ]
  refine' wpAnyJ_takeW (i := 6) (oi := { dst := some 8, op := Op.assign (Operand.tmp 30), type := 33, pos := "world.go:68", after := #[{ on := 5, ground := Ground.data }, { on := 5, ground := Ground.chain }, { on := 0, ground := Ground.phase }, { on := 1, ground := Ground.phase }, { on := 2, ground := Ground.phase }, { on := 3, ground := Ground.phase }, { on := 4, ground := Ground.phase }, { on := 5, ground := Ground.phase }], guard := none }) (v := _) rfl (by kernel_rfl) (by kernel_rfl) (by kernel_rfl) (fun _ _ _ h => h) (Or.inl ⟨by rfl, ?hyB5⟩) ?reB5
  case hyB5 => (intro W hSw; (try dsimp only at hSw); go_simp; try with_reducible rfl)
  try simp only [Act.put, List.setIfInBounds_toArray, List.set_cons_zero, List.set_cons_succ]
  refine wpAnyJ_done (by kernel_rfl) ?_ _
  refine NoPanic.normal ?_
  obtain ⟨z0, z1⟩ := hc9
  have J9 := hide (JD.out w9 _ L HA9.out X9.out)
  clear HP9 HA9 X9 HB7 HO7 HV7 HL7 HB8 J6 J7 JD JP HW p0 p1 p2 p3
  go_wp2_with fail
  refine J9.out.mono ?_
  rintro e w10 ⟨rfl, J10, z0', z1'⟩
  clear J9 z0 z1
  go_wp2_with fail
  refine J10.out.mono ?_
  rintro e w11 ⟨rfl, HE⟩
  have HEE := hide HE
  clear HE J10
  go_wp2_with fail
  go_ret
  exact ⟨rfl, HEE.out⟩
end
end Go.Proofs.YtafmiolehlagkaaGreat

/-
  World: who lives with what.
-/
namespace Go.Proofs.YtafmiolehlagkaaGreat
open Go.RowKit
set_option maxRecDepth 100000
theorem row_ext {a b : List (List Int)} {i j : Nat} (hl : a.length = b.length) (h : ∀ m (h1 : m < a.length) (h2 : m < b.length), a[m].getD i 0 = b[m].getD j 0) : rowOf a i = rowOf b j := by
  refine List.ext_getElem (by simp [rowOf, hl]) (fun m m1 m2 => ?_)
  simp only [rowOf, List.length_map] at m1 m2
  simp only [rowOf, List.getElem_map]
  exact h m m1 m2
theorem row_add_old {cols : List (List Int)} {vals : List Int} {n j : Nat} (hc : ∀ c ∈ cols, c.length = n) (hj : j < n) : rowOf (addRow cols vals) j = rowOf cols j := by
  refine row_ext (addRow_len _ _) (fun m m1 m2 => ?_)
  have := hc _ (List.getElem_mem m2)
  rw [addRow_at cols vals m m2 m1, List.getD_eq_getElem?_getD, List.getElem?_append_left (by omega), ← List.getD_eq_getElem?_getD]
theorem row_add_new {cols : List (List Int)} {vals : List Int} {n : Nat} (hc : ∀ c ∈ cols, c.length = n) (hv : vals.length = cols.length) : rowOf (addRow cols vals) n = vals := by
  refine List.ext_getElem (by rw [rowOf_len, addRow_len, hv]) (fun m m1 m2 => ?_)
  have hm : m < cols.length := by omega
  have hm1 : m < (addRow cols vals).length := by rw [addRow_len]; exact hm
  have := hc _ (List.getElem_mem hm)
  simp only [rowOf, List.getElem_map]
  rw [addRow_at cols vals m hm hm1, List.getD_eq_getElem?_getD, List.getElem?_append_right (by omega), this, Nat.sub_self]
  simp [m2]
theorem row_rem {cols : List (List Int)} {n r j : Nat} (hc : ∀ c ∈ cols, c.length = n) (hr : r < n) (hj : j < n - 1) : rowOf (remCols cols r) j = rowOf cols (if j = r then n - 1 else j) := by
  refine row_ext (remCols_len _ _) (fun m m1 m2 => ?_)
  have hl := hc _ (List.getElem_mem m2)
  have hj2 : j < (rem cols[m] r).length := by rw [rem_len]; omega
  rw [remCols_at cols r m m2 m1, List.getD_eq_getElem?_getD, List.getElem?_eq_getElem hj2, Option.getD_some, rem_at _ _ _ (by omega) hj2]
  by_cases c : j = r
  · rw [if_pos c, if_pos c, List.getD_eq_getElem?_getD, List.getElem?_eq_getElem (by omega), Option.getD_some]
    congr 1
    omega
  · rw [if_neg c, if_neg c, List.getD_eq_getElem?_getD, List.getElem?_eq_getElem (by omega), Option.getD_some]
abbrev Co := Int × Int → Option (Nat × List Int)
/-- The tables hold what is told of each. -/
def Ct (C : Co) (T : Nat → Ts) : Prop := ∀ e s vals, C e = some (s, vals) → ∃ j, ∃ hj : j < (T s).1.length, (T s).1[j] = e ∧ rowOf (T s).2 j = vals
def fC (C : Co) : Int × Int → Option Nat := fun e => (C e).map (·.1)
section
variable {ks : List Kind} {C : Co} {q : Nat → Option Nat} {T : Nat → Ts}
theorem fC_some {e : Int × Int} {s : Nat} {vals : List Int} (h : C e = some (s, vals)) : fC C e = some s := by simp [fC, h]
theorem fC_is (e : Int × Int) : (fC C e).isSome = (C e).isSome := by simp [fC]
theorem fC_less (C : Co) (e : Int × Int) : fC (fun x => if x = e then none else C x) = fun x => if x = e then none else fC C x := by
  funext x
  by_cases c : x = e <;> simp [fC, c]
theorem fC_more (C : Co) (e : Int × Int) (p : Nat × List Int) : fC (fun x => if x = e then some p else C x) = fun x => if x = e then some p.1 else fC C x := by
  funext x
  by_cases c : x = e <;> simp [fC, c]
theorem Ct.drop (h : Ct C T) (hw : Wi ks (fC C) q T) {e : Int × Int} {s r : Nat} (hf : fC C e = some s) (hr : r < (T s).1.length) (hx : (T s).1[r] = e) : Ct (fun x => if x = e then none else C x) (lessT T s r) := by
  obtain ⟨_, ⟨g, hg⟩, _⟩ := hw.1 e s hf
  obtain ⟨_, k2, k3, k4, k5, k6⟩ := hw.2 s g hg
  intro x s' vals hx'
  dsimp only at hx'
  by_cases c : x = e
  · rw [if_pos c] at hx'; cases hx'
  · rw [if_neg c] at hx'
    obtain ⟨j, hj, e1, e2⟩ := h x s' vals hx'
    by_cases d : s' = s
    · subst d
      have hjr : j ≠ r := fun e' => c (by subst e'; exact e1.symm.trans hx)
      by_cases hl : j = (T s').1.length - 1
      · have hr2 : r < (rem (T s').1 r).length := by rw [rem_len]; omega
        refine ⟨r, by simp only [lessT, if_true]; exact hr2, ?_, ?_⟩
        · simp only [lessT, if_true]
          rw [rem_at _ _ _ hr hr2, if_pos rfl]
          subst hl
          exact e1
        · simp only [lessT, if_true]
          rw [row_rem k6 hr (by omega), if_pos rfl, ← hl]
          exact e2
      · have hj2 : j < (rem (T s').1 r).length := by rw [rem_len]; omega
        refine ⟨j, by simp only [lessT, if_true]; exact hj2, ?_, ?_⟩
        · simp only [lessT, if_true]
          rw [rem_at _ _ _ hr hj2, if_neg hjr]
          exact e1
        · simp only [lessT, if_true]
          rw [row_rem k6 hr (by omega), if_neg hjr]
          exact e2
    · refine ⟨j, by simp only [lessT, if_neg d]; exact hj, ?_, ?_⟩
      · simp only [lessT, if_neg d]
        exact e1
      · simp only [lessT, if_neg d]
        exact e2
theorem Ct.put (h : Ct C T) (hw : Wi ks (fC C) q T) {e : Int × Int} {s : Nat} {vals : List Int} (hv : vals.length = fsum ks s 1) : Ct (fun x => if x = e then some (s, vals) else C x) (moreT q T s e vals) := by
  have hb : (baseT q T s vals.length).2.length = vals.length ∧ ∀ c ∈ (baseT q T s vals.length).2, c.length = (baseT q T s vals.length).1.length := by
    unfold baseT
    cases hq : q s with
    | none => simp
    | some g0 =>
      obtain ⟨_, k2, _, _, _, k6⟩ := hw.2 s g0 hq
      simp only [Option.isSome_some, if_true]
      exact ⟨by rw [k2, hv], k6⟩
  intro x s' vals' hx'
  dsimp only at hx'
  by_cases c : x = e
  · rw [if_pos c] at hx'
    simp only [Option.some.injEq, Prod.mk.injEq] at hx'
    obtain ⟨rfl, rfl⟩ := hx'
    refine ⟨(baseT q T s vals.length).1.length, by simp [moreT], ?_, ?_⟩
    · simp [moreT, c]
    · simp only [moreT, if_true]
      exact row_add_new hb.2 hb.1.symm
  · rw [if_neg c] at hx'
    obtain ⟨j, hj, e1, e2⟩ := h x s' vals' hx'
    by_cases d : s' = s
    · subst d
      obtain ⟨_, ⟨g, hg⟩, _⟩ := hw.1 x s' (fC_some hx')
      have hbe : baseT q T s' vals.length = T s' := by unfold baseT; rw [hg]; simp
      obtain ⟨_, _, _, _, _, k6⟩ := hw.2 s' g hg
      refine ⟨j, by simp only [moreT, if_true, hbe, List.length_append]; omega, ?_, ?_⟩
      · simp only [moreT, if_true, hbe]
        rw [List.getElem_append_left hj]
        exact e1
      · simp only [moreT, if_true, hbe]
        rw [row_add_old k6 hj]
        exact e2
    · refine ⟨j, by simp only [moreT, if_neg d]; exact hj, ?_, ?_⟩
      · simp only [moreT, if_neg d]
        exact e1
      · simp only [moreT, if_neg d]
        exact e2
end
/-! ### A world, as it is told -/
def Lv (gs fr : List Nat) (C : Co) : Prop := ∀ a b, livesOf gs fr a b = (C (a, b)).isSome
/-- A world: its kinds, its pool as State tells it, and who lives with what. -/
def Wn (w : World) (own : Nat → Nat) (gw N : Nat) (ks : List Kind) (gs fr : List Nat) (C : Co) : Prop :=
  ∃ vk gp gm gt q T, Wx 0 w own gw vk gp gm gt N ks gs fr (fC C) q T ∧ Wi ks (fC C) q T ∧ Ct C T ∧ mayB ks ∧ Lv gs fr C ∧ ∀ e s vals, C e = some (s, vals) → Pak.Rw.AllFit vals
theorem lives_at {gs fr : List Nat} {a b : Int} (h : livesOf gs fr a b = true) : ∃ i : Nat, a = (i : Int) ∧ i < gs.length ∧ on gs fr i = true ∧ b = ((gs.getD i 0 : Nat) : Int) := by
  simp only [livesOf, isOn, Bool.and_eq_true, decide_eq_true_eq] at h
  exact ⟨a.toNat, by omega, h.1.1.2, h.1.2, h.2.symm⟩
theorem lives_cnt {gs fr : List Nat} {C : Co} (h : Lv gs fr C) (hg : gs.length ≤ 200) (E : List (Int × Int)) (hn : E.Nodup) (hE : ∀ e ∈ E, (fC C e).isSome = true) : E.length ≤ 200 := by
  have hm : (E.map (fun e => e.1.toNat)).Nodup := by
    refine List.pairwise_map.2 (List.Pairwise.imp_of_mem (fun {x y} hx hy hne e => ?_) hn)
    have h1 := hE x hx
    have h2 := hE y hy
    rw [fC_is, ← h] at h1 h2
    obtain ⟨i, i1, i2, i3, i4⟩ := lives_at h1
    obtain ⟨j, j1, j2, j3, j4⟩ := lives_at h2
    have : i = j := by rw [i1, j1] at e; simpa using e
    subst this
    exact hne (Prod.ext (i1.trans j1.symm) (i4.trans j4.symm))
  have := nodup_len 200 _ hm (fun n hn' => by
    obtain ⟨e, he, rfl⟩ := List.mem_map.1 hn'
    have h1 := hE e he
    rw [fC_is, ← h] at h1
    obtain ⟨i, i1, i2, -⟩ := lives_at h1
    rw [i1]
    simp
    omega)
  rwa [List.length_map] at this
section
variable {w w' : World} {own : Nat → Nat} {gw N N' : Nat} {ks : List Kind} {gs fr : List Nat} {C : Co}
theorem Wn.later (h : Wn w own gw N ks gs fr C) (hb : Below w.heap.size w w') : Wn w' (rel own w 0) gw N ks gs fr C := by
  obtain ⟨vk, gp, gm, gt, q, T, h1, h2⟩ := h
  exact ⟨vk, gp, gm, gt, q, T, h1.later hb, h2⟩
theorem Wn.up (h : Wn w own gw N ks gs fr C) (hN : N ≤ N') : Wn w own gw N' ks gs fr C := by
  obtain ⟨vk, gp, gm, gt, q, T, h1, h2⟩ := h
  exact ⟨vk, gp, gm, gt, q, T, h1.up hN, h2⟩
theorem Wn.ok (h : Wn w own gw N ks gs fr C) : Ok 200 gs fr := by
  obtain ⟨vk, gp, gm, gt, q, T, h1, h2⟩ := h
  exact h1.pl.2
theorem fit_cols {q : Nat → Option Nat} {T : Nat → Ts} (hw : Wi ks (fC C) q T) (hc : Ct C T) (hf : ∀ e s vals, C e = some (s, vals) → Pak.Rw.AllFit vals) : ∀ s g, q s = some g → ∀ c ∈ (T s).2, Pak.Rw.AllFit c := fun s g hg c hcm z hz => by
  obtain ⟨_, k2, k3, k4, k5, k6⟩ := hw.2 s g hg
  obtain ⟨m, hm, rfl⟩ := List.getElem_of_mem hcm
  obtain ⟨j, hj, rfl⟩ := List.getElem_of_mem hz
  have hjl : j < (T s).1.length := by rw [← k6 _ (List.getElem_mem hm)]; exact hj
  have hfe := k4 _ (List.getElem_mem hjl)
  obtain ⟨⟨s', vals⟩, hC, hs'⟩ := Option.map_eq_some_iff.1 hfe
  dsimp only at hs'
  subst hs'
  obtain ⟨j', hj', e1, e2⟩ := hc _ _ _ hC
  obtain rfl := nodup_at k3 hj' hjl e1
  refine hf _ _ _ hC _ ?_
  rw [← e2]
  simp only [rowOf, List.mem_map]
  exact ⟨_, List.getElem_mem hm, by rw [List.getD_eq_getElem?_getD, List.getElem?_eq_getElem hj]; rfl⟩
theorem inb_of {gs fr : List Nat} {a b : Int} (ho : Ok 200 gs fr) (h : livesOf gs fr a b = true) : InB (a, b) := by
  obtain ⟨i, i1, i2, i3, i4⟩ := lives_at h
  have := ho.gen i i2
  have := ho.2.2.1
  refine ⟨⟨?_, ?_⟩, ?_, ?_⟩ <;> dsimp only <;> omega
end
end Go.Proofs.YtafmiolehlagkaaGreat

/-
  World: its calls, told by who lives with what.
-/
namespace Go.Proofs.YtafmiolehlagkaaGreat
open Go.RowKit
set_option maxRecDepth 100000
/-! ### The pool's turns -/
def takeE (gs fr : List Nat) : Nat × Nat := match fr with
  | [] => (gs.length, 1)
  | i :: _ => (i, gs.getD i 0 + 1)
def takeG (gs fr : List Nat) : List Nat := match fr with
  | [] => gs ++ [1]
  | i :: _ => gs.set i (gs.getD i 0 + 1)
def takeF (fr : List Nat) : List Nat := fr.tail
theorem getD_push (gs : List Nat) (j : Nat) : (gs ++ [1]).getD j 0 = if j < gs.length then gs.getD j 0 else if j = gs.length then 1 else 0 := by
  simp only [List.getD_eq_getElem?_getD, List.getElem?_append]
  by_cases hj : j < gs.length
  · simp [hj]
  · by_cases hj2 : j = gs.length
    · subst hj2
      simp
    · have e : (([1] : List Nat)[j - gs.length]?) = none := by
        rw [List.getElem?_eq_none]
        simp
        omega
      rw [if_neg hj, if_neg hj, if_neg hj2, e]
      rfl
theorem lives_iff (gs fr : List Nat) (a b : Int) : livesOf gs fr a b = true ↔ ∃ i : Nat, a = (i : Int) ∧ i < gs.length ∧ gs.getD i 0 ≤ 1000000 ∧ i ∉ fr ∧ b = ((gs.getD i 0 : Nat) : Int) := by
  constructor
  · intro h
    obtain ⟨i, h1, h2, h3, h4⟩ := lives_at h
    simp only [on, Bool.and_eq_true, decide_eq_true_eq, Bool.not_eq_true', List.contains_eq_mem, decide_eq_false_iff_not] at h3
    exact ⟨i, h1, h2, h3.1, h3.2, h4⟩
  · rintro ⟨i, rfl, h2, h3, h4, rfl⟩
    simp only [livesOf, isOn, on, Int.toNat_natCast, Bool.and_eq_true, decide_eq_true_eq, Bool.not_eq_true', List.contains_eq_mem, decide_eq_false_iff_not]
    exact ⟨⟨⟨by omega, h2⟩, h3, h4⟩, trivial⟩
theorem lives_take {gs fr : List Nat} (ho : Ok 200 gs fr) (hroom : fr ≠ [] ∨ gs.length < 200) (a b : Int) : livesOf (takeG gs fr) (takeF fr) a b = true ↔ (a, b) = (((takeE gs fr).1 : Int), ((takeE gs fr).2 : Int)) ∨ livesOf gs fr a b = true := by
  rw [lives_iff, lives_iff]
  cases fr with
  | nil =>
    simp only [takeG, takeF, takeE, List.tail_nil, List.length_append, List.length_singleton, List.not_mem_nil, not_false_eq_true, true_and, Prod.mk.injEq]
    constructor
    · rintro ⟨i, rfl, h2, h3, rfl⟩
      rw [getD_push] at h3 ⊢
      by_cases c : i < gs.length
      · rw [if_pos c] at h3 ⊢
        exact .inr ⟨i, rfl, c, h3, rfl⟩
      · have : i = gs.length := by omega
        subst this
        rw [if_neg c, if_pos rfl]
        exact .inl ⟨rfl, rfl⟩
    · rintro (⟨rfl, rfl⟩ | ⟨i, rfl, h2, h3, rfl⟩)
      · refine ⟨gs.length, rfl, by omega, ?_, ?_⟩
        · rw [getD_push, if_neg (by omega), if_pos rfl]
          omega
        · rw [getD_push, if_neg (by omega), if_pos rfl]
      · refine ⟨i, rfl, by omega, ?_, ?_⟩
        · rw [getD_push, if_pos h2]
          exact h3
        · rw [getD_push, if_pos h2]
  | cons k t =>
    have hk := ho.2.2.2.2.2 k (by simp)
    have hnk : k ∉ t := (List.nodup_cons.1 ho.2.2.2.2.1).1
    simp only [takeG, takeF, takeE, List.tail_cons, List.length_set, List.mem_cons, not_or, Prod.mk.injEq]
    constructor
    · rintro ⟨i, rfl, h2, h3, h4, rfl⟩
      rw [getD_set hk.1] at h3 ⊢
      by_cases c : k = i
      · subst c
        rw [if_pos rfl]
        exact .inl ⟨rfl, rfl⟩
      · rw [if_neg c] at h3 ⊢
        exact .inr ⟨i, rfl, h2, h3, ⟨fun e => c e.symm, h4⟩, rfl⟩
    · rintro (⟨rfl, rfl⟩ | ⟨i, rfl, h2, h3, h4, rfl⟩)
      · refine ⟨k, rfl, hk.1, ?_, hnk, ?_⟩
        · rw [getD_set hk.1, if_pos rfl]
          omega
        · rw [getD_set hk.1, if_pos rfl]
      · have c : ¬ k = i := fun e => h4.1 e.symm
        refine ⟨i, rfl, h2, ?_, h4.2, ?_⟩
        · rw [getD_set hk.1, if_neg c]
          exact h3
        · rw [getD_set hk.1, if_neg c]
theorem take_not {gs fr : List Nat} (ho : Ok 200 gs fr) : livesOf gs fr ((takeE gs fr).1 : Int) ((takeE gs fr).2 : Int) = false := by
  rw [← Bool.not_eq_true, lives_iff]
  rintro ⟨i, h1, h2, h3, h4, h5⟩
  cases fr with
  | nil =>
    simp only [takeE] at h1
    omega
  | cons k t =>
    simp only [takeE] at h1
    have : i = k := by omega
    subst this
    simp at h4
theorem take_inb {gs fr : List Nat} (ho : Ok 200 gs fr) : InB (((takeE gs fr).1 : Int), ((takeE gs fr).2 : Int)) := by
  have hl := ho.2.2.1
  cases fr with
  | nil =>
    simp only [takeE]
    refine ⟨⟨?_, ?_⟩, ?_, ?_⟩ <;> dsimp only <;> omega
  | cons k t =>
    have hk := ho.2.2.2.2.2 k (by simp)
    simp only [takeE]
    refine ⟨⟨?_, ?_⟩, ?_, ?_⟩ <;> dsimp only <;> omega
theorem lives_give {gs fr : List Nat} {i : Nat} (hi : i < gs.length) (_hl : gs.getD i 0 ≤ 1000000) (_hfr : i ∉ fr) (a b : Int) : livesOf (giveG gs i) (giveF gs fr i) a b = true ↔ (a, b) ≠ ((i : Int), ((gs.getD i 0 : Nat) : Int)) ∧ livesOf gs fr a b = true := by
  rw [lives_iff, lives_iff]
  simp only [ne_eq, Prod.mk.injEq, not_and]
  by_cases c : gs.getD i 0 = 1000000
  · simp only [giveG, giveF, if_pos c, List.length_set]
    constructor
    · rintro ⟨j, rfl, h2, h3, h4, rfl⟩
      rw [getD_set hi] at h3 ⊢
      by_cases d : i = j
      · rw [if_pos d] at h3
        omega
      · rw [if_neg d] at h3 ⊢
        exact ⟨fun e => absurd e (by omega), j, rfl, h2, h3, h4, rfl⟩
    · rintro ⟨h0, j, rfl, h2, h3, h4, rfl⟩
      have d : ¬ i = j := fun e => h0 (by omega) (by rw [e])
      refine ⟨j, rfl, h2, ?_, h4, ?_⟩ <;> rw [getD_set hi, if_neg d]
      exact h3
  · simp only [giveG, giveF, if_neg c, List.mem_append, List.mem_singleton, not_or]
    constructor
    · rintro ⟨j, rfl, h2, h3, ⟨h4, h5⟩, rfl⟩
      exact ⟨fun e => absurd e (by omega), j, rfl, h2, h3, h4, rfl⟩
    · rintro ⟨h0, j, rfl, h2, h3, h4, rfl⟩
      exact ⟨j, rfl, h2, h3, ⟨h4, fun e => h0 (by omega) (by rw [e])⟩, rfl⟩
/-! ### The calls -/
section
variable {w w' : World} {own : Nat → Nat} {gw N N' : Nat} {ks : List Kind} {gs fr : List Nat} {C : Co}
theorem wn_new {v : Value} (h : Kr w v ks) (hm : mayB ks) : Calls Tryz.prog 22 #[v] w fun e w' => ∃ gw, e = .returned (.tuple #[.pointer (some ⟨gw, 0, none⟩), .int .i64 0]) ∧ (∃ own, (∀ k, k < w.heap.size → own k = 0) ∧ Wn w' own gw 0 ks [] [] (fun _ => none)) ∧ Below w.heap.size w w' := by
  refine (wnew_any h hm (fun _ => ([], []))).mono ?_
  rintro e w' ⟨gw, rfl, ⟨own, vk, gp, gm, gt, h1, h2⟩, h3⟩
  refine ⟨gw, rfl, ⟨own, h1, vk, gp, gm, gt, _, _, h2, Wi.start _ _, fun e s vals h => (by cases h), hm, fun a b => ?_, fun e s vals h => (by cases h)⟩, h3⟩
  simp [livesOf, isOn]
theorem Wn.spawn (h : Wn w own gw N ks gs fr C) (hN : N ≤ 900000) (hroom : fr ≠ [] ∨ gs.length < 200) (v : Value) (l : List Pt) (V : Pt → List Int) (hv : Rp w v l) (hcome : comeL ks 0 l = 0) (hv0 : ∀ k, v.ownBlock = some k → own k = 0 ∧ k < w.heap.size) (hV : ∀ p ∈ l, Iz w (ptV p) (V p) ∧ (p.2.1 = none → p.2.2 = (0, 0))) (hV0 : ∀ p ∈ l, ∀ k, (ptV p).ownBlock = some k → own k = 0 ∧ k < w.heap.size) (hfit : ∀ p ∈ l, Pak.Rw.AllFit (V p)) :
    Calls Tryz.prog 24 #[.pointer (some ⟨gw, 0, none⟩), v] w fun e w' => e = .returned (.tuple #[ev (takeE gs fr), .int .i64 0]) ∧ ∃ (vals : List Int) (own' : Nat → Nat), Wn w' own' gw (N + 3) ks (takeG gs fr) (takeF fr) (fun x => if x = (((takeE gs fr).1 : Int), ((takeE gs fr).2 : Int)) then some (setOf l, vals) else C x) ∧ Wk own own' w w' ∧ vals.length = fsum ks (setOf l) 1 ∧ ∀ r, r ∈ partsL ks (setOf l) 1 vals ↔ ∃ p ∈ l, r = (p.1.toNat, V p) := by
  have ho := h.ok
  obtain ⟨vk, gp, gm, gt, q, T, h1, h2, h3, h4, h5, h6⟩ := h
  obtain ⟨p1, p2, p3⟩ := come_twelve hcome h4.2.1
  have hpg := come_pg hcome
  obtain ⟨-, -, -, hsb, hs⟩ := hpg.facts h4.2.1
  have hVl : ∀ p ∈ l, (V p).length = p.2.2.1 := fun p hp => by
    obtain ⟨ao, c, e, -⟩ := (hV p hp).1
    simp only [ptV, Value.slice.injEq] at e
    exact e.2.1.symm
  have hl := nvals_flat l hVl
  have h48 := fsum_le ks (setOf l) 1 (fun x hx => (h4.2.2.1 x hx).1)
  have hnl := take_not ho
  have hfn : fC C (((takeE gs fr).1 : Int), ((takeE gs fr).2 : Int)) = none := by
    rw [h5] at hnl
    have := fC_is (C := C) (((takeE gs fr).1 : Int), ((takeE gs fr).2 : Int))
    rw [hnl] at this
    simpa using this
  have hqs : ∀ g, q (setOf l) = some g → (((takeE gs fr).1 : Int), ((takeE gs fr).2 : Int)) ∉ (T (setOf l)).1 ∧ (T (setOf l)).1.length < 200 ∧ (l.flatMap V).length = (T (setOf l)).2.length := fun g hg => by
    obtain ⟨k1, k2, k3, k4, k5, k6⟩ := h2.2 _ g hg
    have hni : (((takeE gs fr).1 : Int), ((takeE gs fr).2 : Int)) ∉ (T (setOf l)).1 := fun hm => by
      have := k4 _ hm
      rw [hfn] at this
      cases this
    refine ⟨hni, ?_, by rw [hl, k2, p3]⟩
    have hlv : Lv (takeG gs fr) (takeF fr) (fun x => if x = (((takeE gs fr).1 : Int), ((takeE gs fr).2 : Int)) then some (0, []) else C x) := fun a b => by
      rw [Bool.eq_iff_iff, lives_take ho hroom, h5]
      (try dsimp only)
      by_cases c : (a, b) = (((takeE gs fr).1 : Int), ((takeE gs fr).2 : Int))
      · rw [if_pos c]; simp [c]
      · rw [if_neg c]; simp [c]
    have hg2 : (takeG gs fr).length ≤ 200 := by
      cases fr with
      | nil =>
        simp only [takeG, List.length_append, List.length_singleton]
        rcases hroom with c | c
        · exact absurd rfl c
        · omega
      | cons k t =>
        simp only [takeG, List.length_set]
        exact ho.2.2.1
    have := lives_cnt hlv hg2 ((T (setOf l)).1 ++ [(((takeE gs fr).1 : Int), ((takeE gs fr).2 : Int))]) (by
      rw [List.nodup_append]
      refine ⟨k3, by simp, fun x hx y hy e => ?_⟩
      simp only [List.mem_singleton] at hy
      exact hni (by rw [← hy, ← e]; exact hx)) (fun x hx => by
      rw [fC_is]
      (try dsimp only)
      rcases List.mem_append.1 hx with hx | hx
      · by_cases c : x = (((takeE gs fr).1 : Int), ((takeE gs fr).2 : Int))
        · rw [if_pos c]; rfl
        · rw [if_neg c, ← fC_is, k4 x hx]; rfl
      · rw [if_pos (List.mem_singleton.1 hx)]; rfl)
    rw [List.length_append, List.length_singleton] at this
    omega
  have hT : ∀ (W : World) (S : Nat → Prop), Pl W S gp 200 gs fr → Calls Tryz.prog 75 #[.pointer (some ⟨gp, 0, none⟩)] W fun e w' => e = .returned (.tuple #[.agg #[.int .i64 ((takeE gs fr).1 : Int), .int .i64 ((takeE gs fr).2 : Int)], .int .i64 0]) ∧ Pl w' (Nw W S) gp 200 (takeG gs fr) (takeF fr) ∧ Mv W w' S := fun W S hp => by
    cases fr with
    | nil =>
      rcases hroom with c | c
      · exact absurd rfl c
      · exact take_new hp c
    | cons k t => exact take_free hp
  refine (spawn_of h1 v l hv h4.2.1 hcome V hv0 p1 hV hV0 (by have := h4.2.1; omega) hN _ _ (take_inb ho) hqs hT).mono ?_
  rintro e w' ⟨rfl, l', g, own', r1, r2, r3, r4⟩
  obtain ⟨t1, t2⟩ := put_told hpg h4.2.1 hVl r1 r2
  refine ⟨rfl, l'.flatMap V, own', ⟨vk, gp, gm, gt, fun x => if x = setOf l then some g else q x, moreT q T (setOf l) (((takeE gs fr).1 : Int), ((takeE gs fr).2 : Int)) (l'.flatMap V), ?_, ?_, h3.put h2 t1, h4, fun a b => ?_, fun e s vals he => ?_⟩, r4, t1, fun r => ?_⟩
  · rw [fC_more]
    exact r3
  · rw [fC_more]
    exact h2.put hfn hs hsb t1
  · rw [Bool.eq_iff_iff, lives_take ho hroom, h5]
    (try dsimp only)
    by_cases c : (a, b) = (((takeE gs fr).1 : Int), ((takeE gs fr).2 : Int))
    · rw [if_pos c]; simp [c]
    · rw [if_neg c]; simp [c]
  · dsimp only at he
    by_cases c : e = (((takeE gs fr).1 : Int), ((takeE gs fr).2 : Int))
    · rw [if_pos c] at he
      simp only [Option.some.injEq, Prod.mk.injEq] at he
      rw [← he.2]
      intro z hz
      obtain ⟨p, hp, hzp⟩ := List.mem_flatMap.1 hz
      exact hfit p (r1.mem_iff.1 hp) z hzp
    · rw [if_neg c] at he
      exact h6 e s vals he
  · rw [t2, List.mem_map]
    constructor
    · rintro ⟨p, hp, rfl⟩
      exact ⟨p, r1.mem_iff.1 hp, rfl⟩
    · rintro ⟨p, hp, rfl⟩
      exact ⟨p, r1.mem_iff.2 hp, rfl⟩
theorem Wn.spawn_full (h : Wn w own gw N ks gs fr C) (hfr : fr = []) (hgs : gs.length = 200) (v : Value) (l : List Pt) (hv : Rp w v l) (hcome : comeL ks 0 l = 0) : Calls Tryz.prog 24 #[.pointer (some ⟨gw, 0, none⟩), v] w fun e w' => e = .returned (.tuple #[ev (0, 0), .int .i64 40]) ∧ Below w.heap.size w w' := by
  obtain ⟨vk, gp, gm, gt, q, T, h1, h2, h3, h4, h5, h6⟩ := h
  exact Go.Proofs.YtafmiolehlagkaaGreat.spawn_full h1 v l hv h4.2.1 hcome hfr hgs
theorem Wn.at (h : Wn w own gw N ks gs fr C) {a b : Int} (hc : (C (a, b)).isSome = true) : ∃ i : Nat, a = (i : Int) ∧ b = ((gs.getD i 0 : Nat) : Int) ∧ i < gs.length ∧ gs.getD i 0 ≤ 1000000 ∧ i ∉ fr := by
  obtain ⟨vk, gp, gm, gt, q, T, h1, h2, h3, h4, h5, h6⟩ := h
  rw [← h5] at hc
  obtain ⟨i, i1, i2, i3, i4, i5⟩ := (lives_iff gs fr a b).1 hc
  exact ⟨i, i1, i5, i2, i3, i4⟩
theorem Wn.despawn (h : Wn w own gw N ks gs fr C) (hN : N ≤ 900000) {i : Nat} (hc : (C ((i : Int), ((gs.getD i 0 : Nat) : Int))).isSome = true) (hi : i < gs.length) (hl : gs.getD i 0 ≤ 1000000) (hfr : i ∉ fr) :
    Calls Tryz.prog 31 #[.pointer (some ⟨gw, 0, none⟩), ev (i, gs.getD i 0)] w fun e w' => e = .returned (.int .i64 0) ∧ ∃ own', Wn w' own' gw (N + 1) ks (giveG gs i) (giveF gs fr i) (fun x => if x = ((i : Int), ((gs.getD i 0 : Nat) : Int)) then none else C x) ∧ Wk own own' w w' := by
  have ho := h.ok
  obtain ⟨vk, gp, gm, gt, q, T, h1, h2, h3, h4, h5, h6⟩ := h
  obtain ⟨⟨s, vals⟩, hC⟩ := Option.isSome_iff_exists.1 hc
  have hf := fC_some hC
  obtain ⟨hs, ⟨g, hq⟩, -⟩ := h2.1 _ s hf
  obtain ⟨r, hr, hx, -⟩ := h3 _ s vals hC
  refine (despawn_live h1 i _ _ rfl rfl hi hl hfr s g r hf hq hs hr hx hN (by have := ho.2.2.1; omega)).mono ?_
  rintro e w' ⟨rfl, own', r1, r2⟩
  refine ⟨rfl, own', ⟨vk, gp, gm, gt, lessQ q T s, lessT T s r, ?_, ?_, h3.drop h2 hf hr hx, h4, fun a b => ?_, fun e s vals he => ?_⟩, r2⟩
  · rw [fC_less]
    exact r1
  · rw [fC_less]
    exact h2.drop hf hr hx
  · rw [Bool.eq_iff_iff, lives_give hi hl hfr, h5]
    (try dsimp only)
    by_cases c : (a, b) = ((i : Int), ((gs.getD i 0 : Nat) : Int))
    · rw [if_pos c]
      exact ⟨fun h => absurd c h.1, fun h => by cases h⟩
    · rw [if_neg c]
      exact ⟨fun h => h.2, fun h => ⟨c, h⟩⟩
  · dsimp only at he
    by_cases c : e = ((i : Int), ((gs.getD i 0 : Nat) : Int))
    · rw [if_pos c] at he; cases he
    · rw [if_neg c] at he
      exact h6 e s vals he
theorem Wn.despawn_stale (h : Wn w own gw N ks gs fr C) (a b : Int) (hc : (C (a, b)).isSome = false) : Calls Tryz.prog 31 #[.pointer (some ⟨gw, 0, none⟩), .agg #[.int .i64 a, .int .i64 b]] w fun e w' => e = .returned (.int .i64 41) ∧ Below w.heap.size w w' := by
  obtain ⟨vk, gp, gm, gt, q, T, h1, h2, h3, h4, h5, h6⟩ := h
  exact Go.Proofs.YtafmiolehlagkaaGreat.despawn_stale h1 a b ((h5 a b).trans hc)
theorem Wn.add (h : Wn w own gw N ks gs fr C) (hN : N ≤ 800000) (a b x : Int) (s : Nat) (old vals : List Int) (hc : C (a, b) = some (s, old)) (av : Option Addr) (nv cv : Nat) (hvs : Iz w (.slice av nv cv) vals) (hav : av = none → (nv, cv) = (0, 0)) (hv0 : ∀ k, (Value.slice av nv cv).ownBlock = some k → own k = 0 ∧ k < w.heap.size) (hz : comeS ks s x nv = 0) (hfit : Pak.Rw.AllFit vals) :
    Calls Tryz.prog 27 #[.pointer (some ⟨gw, 0, none⟩), .agg #[.int .i64 a, .int .i64 b], .agg #[.int .i64 x, .slice av nv cv]] w fun e w' => e = .returned (.int .i64 0) ∧ ∃ (vals' : List Int) (own' : Nat → Nat), Wn w' own' gw (N + 4) ks gs fr (fun y => if y = (a, b) then some (s ||| 2 ^ x.toNat, vals') else C y) ∧ Wk own own' w w' ∧ vals'.length = fsum ks (s ||| 2 ^ x.toNat) 1 ∧ ∀ r, r ∈ partsL ks (s ||| 2 ^ x.toNat) 1 vals' ↔ r ∈ partsL ks s 1 old ∨ r = (x.toNat, vals) := by
  have ho := h.ok
  obtain ⟨vk, gp, gm, gt, q, T, h1, h2, h3, h4, h5, h6⟩ := h
  have hf := fC_some hc
  obtain ⟨hs, ⟨g, hq⟩, -⟩ := h2.1 _ s hf
  obtain ⟨i, hi, hx, hrow⟩ := h3 _ s old hc
  have hl : livesOf gs fr a b = true := by rw [h5, hc]; rfl
  refine (wadd_any h1 h2 a b x (inb_of ho hl) h4.2.1 (fun x hx => (h4.2.2.1 x hx).1) s g i hf hq hi hx (fun E e1 e2 => lives_cnt h5 ho.2.2.1 E e1 e2) hN av nv cv vals hvs hav hv0 hl hz).mono ?_
  rintro e w' ⟨rfl, vals', g', own', r1, r2, r3, r4, r5⟩
  have hfe : (fun y => if y = (a, b) then some (s ||| 2 ^ x.toNat) else if y = (a, b) then none else fC C y) = fC (fun y => if y = (a, b) then some (s ||| 2 ^ x.toNat, vals') else C y) := by
    rw [fC_more]
    funext y
    by_cases c : y = (a, b) <;> simp [c]
  rw [hfe] at r1 r3
  rw [hrow] at r5
  refine ⟨rfl, vals', own', ⟨vk, gp, gm, gt, _, _, r1, r3, ?_, h4, fun c d => ?_, fun e s' vs he => ?_⟩, r2, r4, r5⟩
  · have hd := h3.drop h2 hf hi hx
    have hwd : Wi ks (fC (fun x => if x = (a, b) then none else C x)) (lessQ q T s) (lessT T s i) := by
      rw [fC_less]
      exact h2.drop hf hi hx
    have hp := hd.put hwd (e := (a, b)) (s := s ||| 2 ^ x.toNat) (vals := vals') r4
    intro e s' vs he
    refine hp e s' vs ?_
    dsimp only at he ⊢
    by_cases c : e = (a, b)
    · rw [if_pos c] at he ⊢
      exact he
    · rw [if_neg c] at he ⊢
      rw [if_neg c]
      exact he
  · rw [h5]
    (try dsimp only)
    by_cases e : (c, d) = (a, b)
    · rw [if_pos e, e, hc]
      rfl
    · rw [if_neg e]
  · dsimp only at he
    by_cases c : e = (a, b)
    · rw [if_pos c] at he
      simp only [Option.some.injEq, Prod.mk.injEq] at he
      obtain ⟨rfl, rfl⟩ := he
      have hflat := partsL_flat ks (s ||| 2 ^ x.toNat) 1 vals' r4
      intro z hz
      rw [← hflat] at hz
      obtain ⟨r, hr, hzr⟩ := List.mem_flatMap.1 hz
      rcases (r5 r).1 hr with hr | rfl
      · exact h6 _ _ _ hc z (partsL_sub ks s 1 old r hr z hzr)
      · exact hfit z hzr
    · rw [if_neg c] at he
      exact h6 e s' vs he
theorem Wn.add_err (h : Wn w own gw N ks gs fr C) (a b x : Int) (s : Nat) (old : List Int) (hc : C (a, b) = some (s, old)) (av : Option Addr) (nv cv : Nat) (z : Int) (hz : comeS ks s x nv = z) (hz0 : z ≠ 0) : Calls Tryz.prog 27 #[.pointer (some ⟨gw, 0, none⟩), .agg #[.int .i64 a, .int .i64 b], .agg #[.int .i64 x, .slice av nv cv]] w fun e w' => e = .returned (.int .i64 z) ∧ Below w.heap.size w w' := by
  have ho := h.ok
  obtain ⟨vk, gp, gm, gt, q, T, h1, h2, h3, h4, h5, h6⟩ := h
  have hf := fC_some hc
  have hl : livesOf gs fr a b = true := by rw [h5, hc]; rfl
  exact Go.Proofs.YtafmiolehlagkaaGreat.add_err h1 a b x (inb_of ho hl) h4.2.1 s (h2.1 _ s hf).1 hf av nv cv hl z hz hz0
/-- What is written of one. -/
def oneB (ks : List Kind) : Option (Nat × List Int) → List UInt8
  | none => []
  | some p => wrB p.1 (partsL ks p.1 1 p.2)
theorem Wn.snapshot (h : Wn w own gw N ks gs fr C) : Calls Tryz.prog 13 #[.pointer (some ⟨gw, 0, none⟩)] w fun e w' => ∃ v, e = .returned v ∧ (∃ E, Livers (fC C) E ∧ ∃ l, l = Pak.Rw.rowB (zi gs) ++ Pak.Rw.rowB (zi fr) ++ E.flatMap (fun e => oneB ks (C e)) ∧ w'.ownsRow w.heap.size 5 1 v l.length (Lib.byteCells l)) ∧ Below w.heap.size w w' := by
  have ho := h.ok
  obtain ⟨vk, gp, gm, gt, q, T, h1, h2, h3, h4, h5, h6⟩ := h
  refine (snapshot_any h1 h2 h4.2.1 (fit_cols h2 h3 h6) (fun E e1 e2 => lives_cnt h5 ho.2.2.1 E e1 e2)).mono ?_
  rintro e w' ⟨v, rfl, ⟨E, hE, hv⟩, hb⟩
  refine ⟨v, rfl, ⟨E, hE, _, rfl, ?_⟩, hb⟩
  have : E.flatMap (fun e => oneB ks (C e)) = E.flatMap (contB ks (fC C) T) := by
    refine congrArg (fun f => E.flatMap f) (funext fun e => ?_)
    cases hC : C e with
    | none => simp [contB, fC, hC, oneB]
    | some p =>
      obtain ⟨s, vals⟩ := p
      obtain ⟨j, hj, e1, e2⟩ := h3 e s vals hC
      rw [cont_of h2 (fC_some hC) ⟨hj, e1⟩, e2]
      rfl
  rw [this]
  exact hv
end
end Go.Proofs.YtafmiolehlagkaaGreat

/-
  World: what the document's example reckons with.
-/
namespace Go.Proofs.YtafmiolehlagkaaGreat
open Go.RowKit
set_option maxRecDepth 100000
theorem usual_may : mayB usualK := by
  refine ⟨by decide, by decide, fun k hk => ?_, ?_⟩
  · simp only [usualK, List.mem_cons, List.not_mem_nil, or_false] at hk
    rcases hk with rfl | rfl | rfl | rfl
    · refine ⟨by decide, fun x hx => ?_, by decide⟩
      simp only [List.mem_cons, List.not_mem_nil, or_false] at hx
      rcases hx with rfl | rfl
      · exact ⟨by decide, by decide, by decide, by decide⟩
      · exact ⟨by decide, by decide, by decide, by decide⟩
    · refine ⟨by decide, fun x hx => ?_, by decide⟩
      simp only [List.mem_cons, List.not_mem_nil, or_false] at hx
      rcases hx with rfl
      exact ⟨by decide, by decide, by decide, by decide⟩
    · exact ⟨by decide, fun x hx => (by cases hx), by decide⟩
    · refine ⟨by decide, fun x hx => ?_, by decide⟩
      simp only [List.mem_cons, List.not_mem_nil, or_false] at hx
      rcases hx with rfl | rfl | rfl | rfl
      · exact ⟨by decide, by decide, by decide, by decide⟩
      · exact ⟨by decide, by decide, by decide, by decide⟩
      · exact ⟨by decide, by decide, by decide, by decide⟩
      · exact ⟨by decide, by decide, by decide, by decide⟩
  · refine ⟨fun x hx => ?_, by decide⟩
    simp only [usualK, List.map_cons, List.map_nil, List.mem_cons, List.not_mem_nil, or_false] at hx
    rcases hx with rfl | rfl | rfl | rfl
    · exact ⟨by decide, by decide, by decide, by decide⟩
    · exact ⟨by decide, by decide, by decide, by decide⟩
    · exact ⟨by decide, by decide, by decide, by decide⟩
    · exact ⟨by decide, by decide, by decide, by decide⟩
theorem sh_come (a b : Option Addr) (c d : Nat) : comeL usualK 0 [(2, a, 1, c), (1, b, 2, d)] = 0 := by kernel_rfl
theorem sh_none : comeL usualK 0 [] = 0 := rfl
theorem sh_add : comeS usualK 0 3 0 = 0 := rfl
theorem sh_has : comeS usualK 8 3 0 = 61 := rfl
theorem sh_set (a b : Option Addr) (c d : Nat) : setOf [(2, a, 1, c), (1, b, 2, d)] = 6 := by kernel_rfl
theorem sh_sum : fsum usualK 8 1 = 0 := rfl
theorem uv_one {n : Nat} (h : n < 128) : Lib.uvarint n = [UInt8.ofNat n] := Lib.uvarint_small h
theorem sh_iv : Pak.Rw.ivar 0 = [0] ∧ Pak.Rw.ivar 1 = [2] := by
  unfold Pak.Rw.ivar
  have e0 : Lib.zigzag 0 = 0 := by decide
  have e1 : Lib.zigzag 1 = 2 := by decide
  rw [e0, e1, uv_one (by omega), uv_one (by omega)]
  decide
theorem sh_bytes : Pak.Rw.rowB (zi [1, 1]) ++ Pak.Rw.rowB (zi [0]) ++ wrB 8 (partsL usualK 8 1 []) = [2, 0, 2, 2, 1, 0, 0, 8] := by
  have h8 : wrB 8 (partsL usualK 8 1 []) = [8] := by
    have : partsL usualK 8 1 [] = [(3, [])] := rfl
    rw [this]
    unfold wrB
    rw [uv_one (by omega)]
    rfl
  obtain ⟨i0, i1⟩ := sh_iv
  have z1 : zi [1, 1] = [1, 1] := rfl
  have z0 : zi [0] = [0] := rfl
  have w0 : wrap64 0 = 0 := by kernel_rfl
  have hr1 : Pak.Rw.rowB [1, 1] = [2, 0, 2, 2] := by
    simp [Pak.Rw.rowB, Pak.Rw.best, Pak.Rw.formB, Pak.Rw.bodyTo, Pak.Rw.entry, Pak.Rw.runsB, Pak.Rw.runsTo, Pak.Rw.ends, i0, i1, w0, uv_one]
  have hr0 : Pak.Rw.rowB [0] = [1, 0, 0] := by
    simp [Pak.Rw.rowB, Pak.Rw.best, Pak.Rw.formB, Pak.Rw.bodyTo, Pak.Rw.entry, Pak.Rw.runsB, Pak.Rw.runsTo, Pak.Rw.ends, i0, uv_one]
  rw [h8, z1, z0, hr1, hr0]
  rfl
end Go.Proofs.YtafmiolehlagkaaGreat

/-
  World: the document's example.
-/
namespace Go.Proofs.YtafmiolehlagkaaGreat
open Go.RowKit
set_option maxRecDepth 100000
/-- A world, and a block of nobody's that stays. -/
theorem wk_at {own own' : Nat → Nat} {w w' : World} {k : Nat} {o : Obj} (h : Wk own own' w w') (hk : w.heap[k]? = some o) (h0 : own k = 0) : w'.heap[k]? = some o ∧ own' k = 0 := ⟨h.mv.at hk (fun e => e h0), (h.1 k (lt_of_block hk)).trans h0⟩
theorem iz_lit {w : World} {g : Nat} {l : List Int} {o : Array Value} (h : w.heap[g]? = some (.cells o 2 (0, 0))) (hl : l.length ≤ 100) (ho : ∀ j (hj : j < l.length), o[j]? = some (.int .i64 l[j])) : Iz w (.slice (some ⟨g, 0, none⟩) l.length l.length) l := by
  refine ⟨_, _, rfl, Nat.le_refl _, by unfold maxLen; omega, fun j hj => ⟨g, 0, rfl, ?_⟩⟩
  rw [Nat.zero_add, cell_of_row w g j _ 2 (0, 0) h]
  exact ho j hj
/-- What three lists are that were laid one behind the other. -/
theorem sh_parts {w2 W : World} (hW : W = ((w2.alloc (.cells #[.int .i64 7] 2)).alloc (.cells #[.int .i64 1, .int .i64 2] 2)).alloc (.cells #[.int .i64 2, .slice (some ⟨w2.heap.size, 0, none⟩) 1 1, .int .i64 1, .slice (some ⟨w2.heap.size + 1, 0, none⟩) 2 2] 32)) :
    Iz W (.slice (some ⟨w2.heap.size, 0, none⟩) 1 1) [7] ∧ Iz W (.slice (some ⟨w2.heap.size + 1, 0, none⟩) 2 2) [1, 2] ∧ Rp W (.slice (some ⟨w2.heap.size + 1 + 1, 0, none⟩) 2 2) [(2, some ⟨w2.heap.size, 0, none⟩, 1, 1), (1, some ⟨w2.heap.size + 1, 0, none⟩, 2, 2)] ∧ Below w2.heap.size w2 W ∧ W.heap.size = w2.heap.size + 3 := by
  have e1 : W.heap[w2.heap.size]? = some (.cells #[.int .i64 7] 2 (0, 0)) := by
    rw [hW]
    exact ((below_alloc _ _).block _ (by simp; omega)).trans (((below_alloc _ _).block _ (by simp)).trans (heap_alloc_new w2 _))
  have e2 : W.heap[w2.heap.size + 1]? = some (.cells #[.int .i64 1, .int .i64 2] 2 (0, 0)) := by
    rw [hW]
    refine ((below_alloc _ _).block _ (by simp)).trans ?_
    have := heap_alloc_new (w2.alloc (.cells #[.int .i64 7] 2)) (.cells #[.int .i64 1, .int .i64 2] 2)
    simpa using this
  have e3 : W.heap[w2.heap.size + 1 + 1]? = some (.cells #[.int .i64 2, .slice (some ⟨w2.heap.size, 0, none⟩) 1 1, .int .i64 1, .slice (some ⟨w2.heap.size + 1, 0, none⟩) 2 2] 32 (0, 0)) := by
    have := heap_alloc_new ((w2.alloc (.cells #[.int .i64 7] 2)).alloc (.cells #[.int .i64 1, .int .i64 2] 2)) (.cells #[.int .i64 2, .slice (some ⟨w2.heap.size, 0, none⟩) 1 1, .int .i64 1, .slice (some ⟨w2.heap.size + 1, 0, none⟩) 2 2] 32)
    rw [hW]
    simpa using this
  refine ⟨?_, ?_, ?_, ?_, ?_⟩
  · exact iz_lit (l := [7]) e1 (by decide) (fun j hj => by match j, hj with | 0, _ => rfl)
  · exact iz_lit (l := [1, 2]) e2 (by decide) (fun j hj => by match j, hj with | 0, _ => rfl | 1, _ => rfl)
  · refine .inr ⟨_, 0, 2, rfl, Nat.le_refl 2, by unfold maxLen; omega, fun j u hj => ?_⟩
    rw [Nat.zero_add, cell_of_row W _ j _ 32 (0, 0) e3]
    simpa [pz] using hj
  · rw [hW]
    exact below_on (below_on (below_alloc w2 _) (below_alloc _ _)) (below_alloc _ _)
  · rw [hW]
    simp
/-- All that was there before the call is as it was, and nobody's. -/
def Fr (w W : World) (own : Nat → Nat) : Prop := Below w.heap.size w W ∧ ∀ k, k < w.heap.size → own k = 0
theorem Fr.later {w W W' : World} {own : Nat → Nat} (h : Fr w W own) (hb : Below W.heap.size W W') : Fr w W' (rel own W 0) := ⟨below_on h.1 hb, fun k hk => (rel_old (Nat.lt_of_lt_of_le hk h.1.size)).trans (h.2 k hk)⟩
theorem Fr.wk {w W W' : World} {own own' : Nat → Nat} (h : Fr w W own) (hk : Wk own own' W W') : Fr w W' own' := ⟨h.1.trans (hk.mv.below h.1.size (fun k e => by
  by_cases c : k < w.heap.size
  · exact absurd (h.2 k c) e
  · omega)), fun k hk' => (hk.1 k (Nat.lt_of_lt_of_le hk' h.1.size)).trans (h.2 k hk')⟩
theorem livers_one {C : Co} {E : List (Int × Int)} {e : Int × Int} (h : Livers (fC C) E) (he : InB e) (hc : ∀ x, (C x).isSome = true ↔ x = e) : E = [e] := by
  obtain ⟨h1, h2, h3, h4⟩ := h
  have hm : ∀ x, x ∈ E ↔ x = e := fun x => by
    constructor
    · intro hx
      have := (h3 x (h4 x hx)).2 hx
      rw [fC_is] at this
      exact (hc x).1 this
    · rintro rfl
      refine (h3 x he).1 ?_
      rw [fC_is]
      exact (hc x).2 rfl
  have hp : E.Perm [e] := (List.perm_ext_iff_of_nodup h2 (by simp)).2 (fun x => by rw [hm x]; simp)
  exact List.perm_singleton.1 hp
theorem iz_nil (w : World) : Iz w (.slice none 0 0) [] := ⟨none, 0, rfl, Nat.le_refl _, Nat.zero_le _, fun j hj => absurd hj (by simp)⟩
set_option maxHeartbeats 8000000 in
theorem shown_any (w : World) : Calls Tryz.prog 9 #[] w fun e w' => e = .returned (.bool true) ∧ Below w.heap.size w w' := by
  go_enter Tryz.func9, Tryz.ntmps9
  go_wp2_with fail
  refine (usual_any w).mono ?_
  rintro e w1 ⟨v, rfl, hk, hb1⟩
  have J1 := hide (wn_new (hk w1 (Below.refl _ _)) usual_may)
  have HB1 := hide hb1
  obtain ⟨av, cv, rfl, -⟩ := hk w1 (Below.refl _ _)
  clear hk hb1
  go_wp2_with fail
  refine J1.out.mono ?_
  rintro e w2 ⟨gw, rfl, ⟨own, ho, hW⟩, hb2⟩
  have F2 : Hid (Fr w w2 own) := ⟨below_on HB1.out hb2, fun k hk => ho k (Nat.lt_of_lt_of_le hk HB1.out.size)⟩
  obtain ⟨w3, hw3⟩ : ∃ X, X = ((w2.alloc (.cells #[.int .i64 7] 2)).alloc (.cells #[.int .i64 1, .int .i64 2] 2)).alloc (.cells #[.int .i64 2, .slice (some ⟨w2.heap.size, 0, none⟩) 1 1, .int .i64 1, .slice (some ⟨w2.heap.size + 1, 0, none⟩) 2 2] 32) := ⟨_, rfl⟩
  obtain ⟨z1, z2, z3, hb3, hs3⟩ := sh_parts hw3
  have F3 := hide (F2.out.later hb3)
  have hnew : ∀ k, w2.heap.size ≤ k → k < w2.heap.size + 3 → rel own w2 0 k = 0 ∧ k < w3.heap.size := fun k h1 h2 => ⟨rel_new h1, by omega⟩
  have J3 : Hid (Calls Tryz.prog 24 #[.pointer (some ⟨gw, 0, none⟩), .slice (some ⟨w2.heap.size + 1 + 1, 0, none⟩) 2 2] w3 fun e w' => e = .returned (.tuple #[.agg #[.int .i64 0, .int .i64 1], .int .i64 0]) ∧ ∃ (vals : List Int) (own' : Nat → Nat), Hid (Wn w' own' gw 3 usualK [1] [] (fun x => if x = (0, 1) then some (6, vals) else none) ∧ Wk (rel own w2 0) own' w3 w')) := by
    refine ((hW.later hb3).spawn (by omega) (.inr (by simp)) _ [(2, some ⟨w2.heap.size, 0, none⟩, 1, 1), (1, some ⟨w2.heap.size + 1, 0, none⟩, 2, 2)] (fun p => if p.1 = 2 then [7] else [1, 2]) z3 (sh_come _ _ _ _) ?_ ?_ ?_ ?_).mono ?_
    · intro k e
      simp only [Value.ownBlock, Option.some.injEq] at e
      exact hnew k (by omega) (by omega)
    · intro p hp
      simp only [List.mem_cons, List.not_mem_nil, or_false] at hp
      rcases hp with rfl | rfl
      · exact ⟨z1, fun e => by cases e⟩
      · exact ⟨z2, fun e => by cases e⟩
    · intro p hp k e
      simp only [List.mem_cons, List.not_mem_nil, or_false] at hp
      rcases hp with rfl | rfl
      · simp only [ptV, Value.ownBlock, Option.some.injEq] at e
        exact hnew k (by omega) (by omega)
      · simp only [ptV, Value.ownBlock, Option.some.injEq] at e
        exact hnew k (by omega) (by omega)
    · intro p hp
      simp only [List.mem_cons, List.not_mem_nil, or_false] at hp
      rcases hp with rfl | rfl
      · intro z hz
        simp at hz
        subst hz
        unfold Pak.Rw.Fits
        omega
      · intro z hz
        simp at hz
        rcases hz with rfl | rfl <;> unfold Pak.Rw.Fits <;> omega
    · rintro e w' ⟨rfl, vals, own', r1, r2, -⟩
      rw [sh_set] at r1
      exact ⟨rfl, vals, own', r1, r2⟩
  clear J1 ho hW hb2 HB1 F2 z1 z2 z3 hb3 hs3 hnew
  go_wp2_with fail
  rw [← hw3]
  refine J3.out.mono ?_
  rintro e w4 ⟨rfl, vals, own4, H4⟩
  have F4 := hide (F3.out.wk H4.out.2)
  obtain ⟨w5, hw5⟩ : ∃ X, X = w4.alloc (.cells #[.int .i64 0, .int .i64 1] 29) := ⟨_, rfl⟩
  have B5 : Below w4.heap.size w4 w5 := hw5 ▸ below_alloc w4 _
  have X5 : Hid (w5.heap[w4.heap.size]? = some (.cells #[.int .i64 0, .int .i64 1] 29 (0, 0)) ∧ rel own4 w4 0 w4.heap.size = 0) := ⟨by rw [hw5]; exact heap_alloc_new w4 _, rel_new (Nat.le_refl _)⟩
  have F5 := hide (F4.out.later B5)
  have J5 : Hid (Calls Tryz.prog 24 #[.pointer (some ⟨gw, 0, none⟩), .slice none 0 0] w5 fun e w' => e = .returned (.tuple #[.agg #[.int .i64 1, .int .i64 1], .int .i64 0]) ∧ ∃ (vals2 : List Int) (own' : Nat → Nat), Hid (Wn w' own' gw 6 usualK [1, 1] [] (fun x => if x = (1, 1) then some (0, vals2) else if x = (0, 1) then some (6, vals) else none) ∧ Wk (rel own4 w4 0) own' w5 w')) := by
    refine ((H4.out.1.later B5).spawn (by omega) (.inr (by simp)) _ [] (fun _ => []) (.inl ⟨rfl, rfl⟩) sh_none (fun k e => by simp [Value.ownBlock] at e) (fun p hp => by cases hp) (fun p hp => by cases hp) (fun p hp => by cases hp)).mono ?_
    rintro e w' ⟨rfl, vals2, own', r1, r2, -⟩
    exact ⟨rfl, vals2, own', r1, r2⟩
  clear J3 H4 F3 F4 hw3 B5
  go_wp2_with fail
  rw [← hw5]
  refine J5.out.mono ?_
  rintro e w6 ⟨rfl, vals2, own6, H6⟩
  obtain ⟨ka, hka⟩ : ∃ k, k = w4.heap.size := ⟨_, rfl⟩
  rw [← hka] at X5 ⊢
  have X6 := hide (wk_at H6.out.2 X5.out.1 X5.out.2)
  have F6 := hide (F5.out.wk H6.out.2)
  obtain ⟨w7, hw7⟩ : ∃ X, X = w6.alloc (.cells #[.int .i64 1, .int .i64 1] 29) := ⟨_, rfl⟩
  have B7 : Below w6.heap.size w6 w7 := hw7 ▸ below_alloc w6 _
  have Y7 : Hid (w7.heap[w6.heap.size]? = some (.cells #[.int .i64 1, .int .i64 1] 29 (0, 0)) ∧ rel own6 w6 0 w6.heap.size = 0) := ⟨by rw [hw7]; exact heap_alloc_new w6 _, rel_new (Nat.le_refl _)⟩
  have X7 : Hid (w7.heap[ka]? = some (.cells #[.int .i64 0, .int .i64 1] 29 (0, 0)) ∧ rel own6 w6 0 ka = 0) := ⟨(B7.block ka (lt_of_block X6.out.1)).trans X6.out.1, (rel_old (lt_of_block X6.out.1)).trans X6.out.2⟩
  have F7 := hide (F6.out.later B7)
  have J7 : Hid (Calls Tryz.prog 27 #[.pointer (some ⟨gw, 0, none⟩), .agg #[.int .i64 1, .int .i64 1], .agg #[.int .i64 3, .slice none 0 0]] w7 fun e w' => e = .returned (.int .i64 0) ∧ ∃ (own' : Nat → Nat), Hid (Wn w' own' gw 10 usualK [1, 1] [] (fun y => if y = (1, 1) then some (8, []) else if y = (1, 1) then some (0, vals2) else if y = (0, 1) then some (6, vals) else none) ∧ Wk (rel own6 w6 0) own' w7 w')) := by
    refine ((H6.out.1.later B7).add (by omega) 1 1 3 0 vals2 [] rfl none 0 0 (iz_nil _) (fun _ => rfl) (fun k e => by simp [Value.ownBlock] at e) sh_add (fun z hz => by cases hz)).mono ?_
    rintro e w' ⟨rfl, vals3, own', r1, r2, r3, -⟩
    have h8 : (0 ||| 2 ^ (3 : Int).toNat) = 8 := by kernel_rfl
    rw [h8] at r1 r3
    rw [sh_sum] at r3
    obtain rfl := List.eq_nil_of_length_eq_zero r3
    exact ⟨rfl, own', r1, r2⟩
  obtain ⟨b0, b1⟩ := kx_cells Y7.out.1 (Below.refl _ w7)
  obtain ⟨kb, hkb⟩ : ∃ k, k = w6.heap.size := ⟨_, rfl⟩
  rw [← hkb] at Y7 b0 b1
  clear J5 H6 F5 F6 X5 X6 hw5 B7 hka
  go_wp2_with fail
  rw [← hw7, ← hkb]
  refine J7.out.mono ?_
  rintro e w8 ⟨rfl, own8, H8⟩
  have X8 := hide (wk_at H8.out.2 X7.out.1 X7.out.2)
  have Y8 := hide (wk_at H8.out.2 Y7.out.1 Y7.out.2)
  have F8 := hide (F7.out.wk H8.out.2)
  have J8 : Hid (Calls Tryz.prog 27 #[.pointer (some ⟨gw, 0, none⟩), .agg #[.int .i64 1, .int .i64 1], .agg #[.int .i64 3, .slice none 0 0]] w8 fun e w' => e = .returned (.int .i64 61) ∧ Below w8.heap.size w8 w') := H8.out.1.add_err 1 1 3 8 [] rfl none 0 0 61 sh_has (by omega)
  clear b0 b1
  obtain ⟨b0, b1⟩ := kx_cells Y8.out.1 (Below.refl _ w8)
  clear J7 F7 X7 Y7 hw7 hkb
  go_wp2_with fail
  refine J8.out.mono ?_
  rintro e w9 ⟨rfl, hb9⟩
  have F9 := hide (F8.out.later hb9)
  have X9 : Hid (w9.heap[ka]? = some (.cells #[.int .i64 0, .int .i64 1] 29 (0, 0)) ∧ rel own8 w8 0 ka = 0) := ⟨(hb9.block ka (lt_of_block X8.out.1)).trans X8.out.1, (rel_old (lt_of_block X8.out.1)).trans X8.out.2⟩
  have Y9 : Hid (w9.heap[kb]? = some (.cells #[.int .i64 1, .int .i64 1] 29 (0, 0)) ∧ rel own8 w8 0 kb = 0) := ⟨(hb9.block kb (lt_of_block Y8.out.1)).trans Y8.out.1, (rel_old (lt_of_block Y8.out.1)).trans Y8.out.2⟩
  have J9 : Hid (Calls Tryz.prog 31 #[.pointer (some ⟨gw, 0, none⟩), .agg #[.int .i64 0, .int .i64 1]] w9 fun e w' => e = .returned (.int .i64 0) ∧ ∃ (own' : Nat → Nat), Hid (Wn w' own' gw 11 usualK [1, 1] [0] (fun x => if x = (0, 1) then none else if x = (1, 1) then some (8, []) else if x = (1, 1) then some (0, vals2) else if x = (0, 1) then some (6, vals) else none) ∧ Wk (rel own8 w8 0) own' w9 w')) := by
    refine ((H8.out.1.later hb9).despawn (by omega) (i := 0) rfl (by decide) (by decide) (by simp)).mono ?_
    rintro e w' ⟨rfl, own', r1, r2⟩
    exact ⟨rfl, own', r1, r2⟩
  clear b0 b1
  obtain ⟨a0, a1⟩ := kx_cells X9.out.1 (Below.refl _ w9)
  clear J8 F8 X8 Y8 hb9 H8
  go_wp2_with fail
  refine J9.out.mono ?_
  rintro e w10 ⟨rfl, own10, H10⟩
  obtain ⟨x1, -⟩ := wk_at H10.out.2 X9.out.1 X9.out.2
  obtain ⟨y1, -⟩ := wk_at H10.out.2 Y9.out.1 Y9.out.2
  have F10 := hide (F9.out.wk H10.out.2)
  have J10 : Hid (Calls Tryz.prog 13 #[.pointer (some ⟨gw, 0, none⟩)] w10 fun e w' => ∃ a n c, e = .returned (.slice a n c) ∧ (convert 51 9 (.slice a n c)).run Tryz.prog w' = .ok (.string ⟨#[2, 0, 2, 2, 1, 0, 0, 8]⟩) w' ∧ Hid (Below w.heap.size w w')) := by
    refine H10.out.1.snapshot.mono ?_
    rintro e w' ⟨v, rfl, ⟨E, hE, l, hl, hv⟩, hb⟩
    have hE1 : E = [(1, 1)] := livers_one hE ⟨⟨by decide, by decide⟩, by decide, by decide⟩ (fun x => by
      by_cases c0 : x = (0, 1)
      · subst c0; simp
      · by_cases c1 : x = (1, 1)
        · subst c1; simp
        · simp [c0, c1])
    have hl2 : l = [2, 0, 2, 2, 1, 0, 0, 8] := by
      rw [hl, hE1]
      rw [← sh_bytes]
      simp [oneB]
    have hc := Pak.conv_bs (bs_own hv rfl)
    rw [hl2] at hc
    obtain ⟨a, n, c, rfl⟩ := own_slice hv
    exact ⟨a, n, c, rfl, hc, below_on F10.out.1 hb⟩
  clear a0 a1
  obtain ⟨a0, a1⟩ := kx_cells x1 (Below.refl _ w10)
  obtain ⟨b0, b1⟩ := kx_cells y1 (Below.refl _ w10)
  clear J9 F9 X9 Y9 H10 x1 y1
  go_wp2_with fail
  refine J10.out.mono ?_
  rintro e w11 ⟨a, n, c, rfl, hcv, HE⟩
  clear J10
  go_wp2_with fail
  go_ret
  exact ⟨rfl, HE.out⟩
end Go.Proofs.YtafmiolehlagkaaGreat

/-
  World: a part of the usual kinds, made of a number.
-/
namespace Go.Proofs.YtafmiolehlagkaaGreat
open Go.RowKit
set_option maxRecDepth 100000
theorem results_cell_one {fn : Func} {p : Tmp} {ty : TypeId} (h : fn.results = #[.cell p ty]) (tmps : Array Value) (P : Program) (w : World) :
    (results fn tmps).run P w = ((asAddr (tmps.getD p undef)).run P w).andThen fun a w₁ => (loadVar ty a).run P w₁ := by
  simp only [results, h]
  simp [Sem.run_bind, Result.andThen]
def c4 (k : Nat) : Nat := [2, 1, 0, 4].getD k 0
def valsN (y : Int) (n : Nat) : List Int := (List.range n).map fun j : Nat => wrap64 (y + (j : Int))
theorem valsN_len (y : Int) (n : Nat) : (valsN y n).length = n := by simp [valsN]
theorem valsN_push (y : Int) (n : Nat) : valsN y (n + 1) = valsN y n ++ [wrap64 (y + (n : Int))] := by simp [valsN, List.range_succ]
theorem valsN_fit (y : Int) (n : Nat) : Pak.Rw.AllFit (valsN y n) := fun z hz => by
  simp only [valsN, List.mem_map] at hz
  obtain ⟨j, -, rfl⟩ := hz
  exact Pak.Rw.wrap64_fits _
theorem c4_le {k : Nat} (h : k < 4) : c4 k ≤ 4 := by
  match k, h with
  | 0, _ => decide
  | 1, _ => decide
  | 2, _ => decide
  | 3, _ => decide
theorem c4_cell (W : World) {k : Nat} (h : k < 4) : (W.alloc (.cells #[.int .i64 2, .int .i64 1, .int .i64 0, .int .i64 4] 3)).cell? ⟨W.heap.size, k, none⟩ = some (.int .i64 (c4 k : Int)) := by
  rw [cell_of_row _ _ _ _ 3 (0, 0) (heap_alloc_new W _)]
  match k, h with
  | 0, _ => rfl
  | 1, _ => rfl
  | 2, _ => rfl
  | 3, _ => rfl
theorem block_kind {w : World} {B e s n g : Nat} {e' : TypeId} {v : Value} {xs : List Value} {o : Array Value} (h : w.ownsRow B e s v n xs) (hg : w.heap[g]? = some (.cells o e' (0, 0))) (hne : e ≠ e') : v.ownBlock ≠ some g := fun hk => by
  rcases h.2 with ⟨rfl, -⟩ | ⟨g', c, cur, rfl, -, hg', -⟩
  · simp [Value.ownBlock] at hk
  · simp only [Value.ownBlock, Option.some.injEq] at hk
    subst hk
    rw [hg] at hg'
    simp only [Option.some.injEq, Obj.cells.injEq] at hg'
    exact hne hg'.2.1.symm
/-- The part under way. -/
def Pw (w W : World) (kp kr : Nat) (k : Nat) (y : Int) (v : Value) (i : Nat) : Prop :=
  W.heap[kp]? = some (.cells #[.int .i64 ((k : Int) + 1), v] 32 (0, 0)) ∧ W.ownsRow w.heap.size 2 1 v i (zc (valsN y i)) ∧ W.heap[kr]? = some (.cells #[.int .i64 0, .slice none 0 0] 32 (0, 0)) ∧ Below w.heap.size w W ∧ w.heap.size ≤ kp ∧ w.heap.size ≤ kr ∧ kp ≠ kr
theorem Pw.turn {w W W' : World} {kp kr k i : Nat} {y : Int} {v v' : Value} (h : Pw w W kp kr k y v i) {W1 : World} (hb : Below W.heap.size W W1) (ho : W'.ownsRow w.heap.size 2 1 v' (i + 1) (zc (valsN y i) ++ [.int .i64 (wrap64 (y + (i : Int)))])) (hg : W1.grownBy W' v.ownBlock) :
    (W'.cell? ⟨kp, 1, none⟩ = some v ∧ W'.frozen? ⟨kp, 1, none⟩ = false) ∧ Pw w (W'.setCell ⟨kp, 1, none⟩ v') kp kr k y v' (i + 1) := by
  obtain ⟨h1, h2, h3, h4, h5, h6, h7⟩ := h
  have b1 := (hb.block kp (lt_of_block h1)).trans h1
  have b3 := (hb.block kr (lt_of_block h3)).trans h3
  have o1 := own_later h2 hb
  have p1 : W'.heap[kp]? = some (.cells #[.int .i64 ((k : Int) + 1), v] 32 (0, 0)) := (hg.block kp (lt_of_block b1) (fun e => block_kind o1 b1 (by decide) e.symm)).trans b1
  have p3 : W'.heap[kr]? = some (.cells #[.int .i64 0, .slice none 0 0] 32 (0, 0)) := (hg.block kr (lt_of_block b3) (fun e => block_kind o1 b3 (by decide) e.symm)).trans b3
  refine ⟨⟨by rw [cell_of_row W' kp _ _ 32 (0, 0) p1]; rfl, frozen_of_row W' kp 1 _ 32 p1⟩, heap_setCell_same W' kp 1 _ 32 v' p1, ?_, (heap_setCell_other W' ⟨kp, 1, none⟩ kr _ (fun e => h7 e.symm)).trans p3, ?_, h5, h6, h7⟩
  · rw [valsN_push, zc_append]
    exact own_set ho (block_kind ho p1 (by decide))
  · refine below_set ((below_on h4 hb).grown hg (below_on h4 hb).size (fun k e => (h2.lt k e).1)) h5
set_option maxHeartbeats 8000000 in
theorem part_any (x y : Int) (w : World) (h0 : -9223372036854775808 ≤ x) (h1 : x ≤ 9223372036854775807) :
    Calls Tryz.prog 23 #[.int .i64 x, .int .i64 y] w fun e w' => ∃ v, e = .returned (.agg #[.int .i64 ((pk x 4 : Nat) + 1 : Int), v]) ∧ w'.ownsRow w.heap.size 2 1 v (c4 (pk x 4)) (zc (valsN y (c4 (pk x 4)))) ∧ Below w.heap.size w w' := by
  obtain ⟨i0, hi0, hz0, hz1, hz2⟩ := info_parts info2
  have hk4 : pk x 4 < 4 := pk_lt x (by omega)
  have J1 := hide (pick_any x 4 (w.alloc (.cells #[.int .i64 0, .slice none 0 0] 32)) h0 h1 (by omega) (by omega))
  generalize pk x 4 = k at *
  have hcn := c4_le hk4
  have HC : Hid (∀ W : World, (W.alloc (.cells #[.int .i64 2, .int .i64 1, .int .i64 0, .int .i64 4] 3)).cell? ⟨W.heap.size, k, none⟩ = some (.int .i64 (c4 k : Int))) := fun W => c4_cell W hk4
  generalize c4 k = cn at *
  have tk : (k : Int) < 4 := by omega
  have tk1 : IntKind.i64.wrap ((k : Int) + 1) = ((k : Int) + 1) := by rw [IntKind.wrap_i64]; omega
  go_enter Tryz.func23, Tryz.ntmps23
  go_wp2_with fail
  refine J1.out.mono ?_
  rintro e w1 ⟨rfl, rfl⟩
  clear J1
  have H0 : Hid (Pw w ((w.alloc (.cells #[.int .i64 0, .slice none 0 0] 32)).alloc (.cells #[.int .i64 ((k : Int) + 1), .slice none 0 0] 32)) (w.heap.size + 1) w.heap.size k y (.slice none 0 0) 0) := by
    refine ⟨?_, by simpa [valsN, zc] using World.ownsRow_nil _ _ _ _, ?_, below_on (below_alloc w _) (below_alloc _ _), by omega, Nat.le_refl _, by omega⟩
    · have := heap_alloc_new (w.alloc (.cells #[.int .i64 0, .slice none 0 0] 32)) (.cells #[.int .i64 ((k : Int) + 1), .slice none 0 0] 32)
      simpa using this
    · exact ((below_alloc _ _).block _ (by simp)).trans (heap_alloc_new w _)
  go_wp2_with fail
  obtain ⟨kp, hkp⟩ : ∃ q, q = w.heap.size + 1 := ⟨_, rfl⟩
  rw [← hkp] at H0 ⊢
  clear hkp tk1
  go_loopw [7] (fun v7 W => ∃ (i : Nat) (v : Value), i ≤ cn ∧ v7 = .int .i64 (i : Int) ∧ Hid (Pw w W kp w.heap.size k y v i)) (fun v7 _ => cn - (intOf v7).toNat)
  case atStart => exact ⟨0, _, Nat.zero_le _, rfl, H0⟩
  case round =>
    obtain ⟨i, v, hil, rfl, HP⟩ := hrel
    have hcell := HC.out wr
    have hb1 := below_alloc wr (.cells #[.int .i64 2, .int .i64 1, .int .i64 0, .int .i64 4] 3)
    have hkq := (hb1.block kp (lt_of_block HP.out.1)).trans HP.out.1
    have p0 : (wr.alloc (.cells #[.int .i64 2, .int .i64 1, .int .i64 0, .int .i64 4] 3)).cell? ⟨kp, 0, none⟩ = some (.int .i64 ((k : Int) + 1)) := by rw [cell_of_row _ kp _ _ 32 (0, 0) hkq]; rfl
    have p1 : (wr.alloc (.cells #[.int .i64 2, .int .i64 1, .int .i64 0, .int .i64 4] 3)).cell? ⟨kp, 1, none⟩ = some v := by rw [cell_of_row _ kp _ _ 32 (0, 0) hkq]; rfl
    have tk0 : (0 : Int) ≤ (k : Int) := by omega
    by_cases hlt : i < cn
    · have t1 : (i : Int) < (cn : Int) := by omega
      obtain ⟨av, nv, cv, rfl⟩ := own_slice HP.out.2.1
      have HO : Hid (((wr.alloc (.cells #[.int .i64 2, .int .i64 1, .int .i64 0, .int .i64 4] 3)).alloc (.cells #[.int .i64 (wrap64 (y + (i : Int)))] 2)).ownsRow w.heap.size 2 1 (.slice av nv cv) i (zc (valsN y i))) := (own_later (own_later HP.out.2.1 hb1) (below_alloc _ _))
      have HT : Hid (∀ (W' : World) (v' : Value), W'.ownsRow w.heap.size 2 1 v' (i + 1) (zc (valsN y i) ++ [.int .i64 (wrap64 (y + (i : Int)))]) → ((wr.alloc (.cells #[.int .i64 2, .int .i64 1, .int .i64 0, .int .i64 4] 3)).alloc (.cells #[.int .i64 (wrap64 (y + (i : Int)))] 2)).grownBy W' (Value.slice av nv cv).ownBlock → (W'.cell? ⟨kp, 1, none⟩ = some (.slice av nv cv) ∧ W'.frozen? ⟨kp, 1, none⟩ = false) ∧ Pw w (W'.setCell ⟨kp, 1, none⟩ v') kp w.heap.size k y v' (i + 1)) := fun W' v' k1 k2 => HP.out.turn (below_on hb1 (below_alloc _ _)) k1 k2
      have HS : Hid (w.heap.size ≤ ((wr.alloc (.cells #[.int .i64 2, .int .i64 1, .int .i64 0, .int .i64 4] 3)).alloc (.cells #[.int .i64 (wrap64 (y + (i : Int)))] 2)).heap.size) := (below_on HP.out.2.2.2.1 (below_on hb1 (below_alloc _ _))).size
      have ew : IntKind.i64.wrap (y + (i : Int)) = wrap64 (y + (i : Int)) := by rw [IntKind.wrap_i64, wrap64]
      clear HP hb1 hkq
      generalize wrap64 (y + (i : Int)) = z at *
      go_wp2_with (at_builtin; refine wpList_append_own_at _ rfl _ _ 30 rfl w.heap.size 2 i0 (.int .i64 0) 1 8 Tryz.underlying30 hi0 hz0 hz1 hz2 rfl (by decide) _ i (zc (valsN y i)) rfl HO.out ⟨wr.heap.size + 1, 0, none⟩ 1 1 [.int .i64 z] rfl rfl ?d1 ?d2 ?d3 ?d4 ?d5 ?_)
      case d1 =>
        intro j u hj
        match j, hj with
        | 0, hj => simp at hj; subst hj; simp [Addr.add]
      case d2 =>
        intro u hu
        simp at hu
        subst hu
        rfl
      case d3 => unfold maxLen; omega
      case d4 => omega
      case d5 => exact HS.out
      intro v9 w9 o9 hg9 _ _
      obtain ⟨a9, n9, c9, rfl⟩ := own_slice o9
      obtain ⟨⟨q1, q2⟩, hp9⟩ := HT.out w9 _ o9 hg9
      have HP9 := hide hp9
      clear o9 hg9 hp9 HT HO hcell p0 p1
      go_wp2_with fail
      go_roundw
      case rel => exact ⟨i + 1, _, by omega, by go_num, HP9⟩
      case measure => simp [intOf]; omega
    · obtain rfl : i = cn := by omega
      have t1 : ¬ (i : Int) < (i : Int) := by omega
      have hp := HP.out
      have hkr := (hb1.block w.heap.size (lt_of_block hp.2.2.1)).trans hp.2.2.1
      have f0 := frozen_of_row _ w.heap.size 0 _ 32 hkr
      have f1 := frozen_of_row _ w.heap.size 1 _ 32 hkr
      have r0 : (wr.alloc (.cells #[.int .i64 2, .int .i64 1, .int .i64 0, .int .i64 4] 3)).cell? ⟨w.heap.size, 0, none⟩ = some (.int .i64 0) := by rw [cell_of_row _ w.heap.size _ _ 32 (0, 0) hkr]; rfl
      have r1 : (wr.alloc (.cells #[.int .i64 2, .int .i64 1, .int .i64 0, .int .i64 4] 3)).cell? ⟨w.heap.size, 1, none⟩ = some (.slice none 0 0) := by rw [cell_of_row _ w.heap.size _ _ 32 (0, 0) hkr]; rfl
      have HE : Hid ((((wr.alloc (.cells #[.int .i64 2, .int .i64 1, .int .i64 0, .int .i64 4] 3)).setCell ⟨w.heap.size, 0, none⟩ (.int .i64 ((k : Int) + 1))).setCell ⟨w.heap.size, 1, none⟩ v).ownsRow w.heap.size 2 1 v i (zc (valsN y i)) ∧ Below w.heap.size w (((wr.alloc (.cells #[.int .i64 2, .int .i64 1, .int .i64 0, .int .i64 4] 3)).setCell ⟨w.heap.size, 0, none⟩ (.int .i64 ((k : Int) + 1))).setCell ⟨w.heap.size, 1, none⟩ v)) := by
        have o1 := own_later hp.2.1 hb1
        have hne := block_kind o1 hkr (by decide)
        exact ⟨own_set (own_set o1 hne) hne, below_set (below_set (below_on hp.2.2.2.1 hb1) (Nat.le_refl _)) (Nat.le_refl _)⟩
      obtain ⟨av, nv, cv, rfl⟩ := own_slice hp.2.1
      clear hp hkr hkq hb1 HP
      go_wp2_with fail
      (try simp only [Exit.inBlock, Exit.then])
      refine bodyPost_ret (v := .agg #[.int .i64 ((k : Int) + 1), .slice av nv cv]) ?_ rfl ⟨_, rfl, HE.out⟩
      rw [results_cell_one rfl]
      go_simp
end Go.Proofs.YtafmiolehlagkaaGreat

/-
  World: what WorldStale reckons with.
-/
namespace Go.Proofs.YtafmiolehlagkaaGreat
open Go.RowKit
set_option maxRecDepth 100000
def bz (l : List Bool) : List Value := l.map Value.bool
theorem bz_len (l : List Bool) : (bz l).length = l.length := by simp [bz]
theorem bz_append (a b : List Bool) : bz (a ++ b) = bz a ++ bz b := by simp [bz]
theorem bz_at (l : List Bool) (i : Nat) (h : i < l.length) : (bz l)[i]? = some (.bool l[i]) := by simp [bz, h]
theorem bz_set (l : List Bool) (i : Nat) (x : Bool) : (bz l).set i (.bool x) = bz (l.set i x) := by simp [bz, List.map_set]
def cntB (l : List Bool) : Nat := (l.filter id).length
theorem cnt_push (l : List Bool) : cntB (l ++ [true]) = cntB l + 1 := by simp [cntB]
theorem cnt_set (l : List Bool) (k : Nat) (hk : k < l.length) (h : l[k] = true) : cntB (l.set k false) + 1 = cntB l := by
  have e1 : l.set k false = l.take k ++ false :: l.drop (k + 1) := List.set_eq_take_append_cons_drop ▸ by simp [hk]
  have e2 : l = l.take k ++ true :: l.drop (k + 1) := by
    rw [← h, List.getElem_cons_drop, List.take_append_drop]
  unfold cntB
  rw [e1]
  conv => rhs; rw [e2]
  simp [List.filter_append]
  omega
/-- Who is there, of all. -/
def aliveL (all : List (Nat × Nat)) (onl : List Bool) : List (Nat × Nat) := ((all.zip onl).filter (fun x => x.2)).map (·.1)
theorem alive_len {all : List (Nat × Nat)} {onl : List Bool} (h : all.length = onl.length) : (aliveL all onl).length = cntB onl := by
  have e : (all.zip onl).map (·.2) = onl := List.map_snd_zip (by omega)
  unfold aliveL cntB
  conv => rhs; rw [← e, List.filter_map]
  simp
theorem alive_nodup {all : List (Nat × Nat)} {onl : List Bool} (h : all.length = onl.length) (hn : all.Nodup) : (aliveL all onl).Nodup := by
  have e : (all.zip onl).map (·.1) = all := List.map_fst_zip (by omega)
  have hs : (aliveL all onl).Sublist ((all.zip onl).map (·.1)) := List.Sublist.map _ List.filter_sublist
  rw [e] at hs
  exact hn.sublist hs
theorem alive_mem {all : List (Nat × Nat)} {onl : List Bool} (h : all.length = onl.length) (p : Nat × Nat) : p ∈ aliveL all onl ↔ ∃ k, ∃ (h1 : k < all.length) (h2 : k < onl.length), all[k] = p ∧ onl[k] = true := by
  unfold aliveL
  rw [List.mem_map]
  constructor
  · rintro ⟨⟨x, b⟩, hx, rfl⟩
    obtain ⟨h1, h2⟩ := List.mem_filter.1 hx
    obtain ⟨k, hk, e⟩ := List.getElem_of_mem h1
    rw [List.length_zip] at hk
    rw [List.getElem_zip] at e
    simp only [Prod.mk.injEq] at e
    exact ⟨k, by omega, by omega, e.1, by rw [e.2]; exact h2⟩
  · rintro ⟨k, h1, h2, rfl, h4⟩
    refine ⟨(all[k], onl[k]), List.mem_filter.2 ⟨?_, h4⟩, rfl⟩
    have hk : k < (all.zip onl).length := by rw [List.length_zip]; omega
    have := List.getElem_mem hk
    rwa [List.getElem_zip] at this
/-- Behind t rounds: all that were given, which of them are there, and how many. -/
def Sl (t : Nat) (gs fr : List Nat) (all : List (Nat × Nat)) (onl : List Bool) : Prop :=
  all.length = onl.length ∧ all.length ≤ t ∧ (∀ x ∈ gs, x ≤ t) ∧ (∀ p ∈ all, p.1 < gs.length ∧ p.2 ≤ gs.getD p.1 0) ∧ all.Nodup ∧ (∀ k (h1 : k < all.length) (h2 : k < onl.length), livesOf gs fr (all[k].1 : Int) (all[k].2 : Int) = onl[k]) ∧ ∀ a b, livesOf gs fr a b = true → ∃ p ∈ all, a = (p.1 : Int) ∧ b = (p.2 : Int)
section
variable {t : Nat} {gs fr : List Nat} {all : List (Nat × Nat)} {onl : List Bool}
theorem Sl.start : Sl 0 [] [] [] [] := ⟨rfl, Nat.le_refl _, fun x hx => (by cases hx), fun x hx => (by cases hx), List.nodup_nil, fun k h => absurd h (by simp), fun a b h => by simp [livesOf, isOn] at h⟩
theorem Sl.more (h : Sl t gs fr all onl) : Sl (t + 1) gs fr all onl := ⟨h.1, by have := h.2.1; omega, fun x hx => by have := h.2.2.1 x hx; omega, h.2.2.2⟩
theorem Sl.alive (h : Sl t gs fr all onl) (p : Nat × Nat) : p ∈ aliveL all onl ↔ livesOf gs fr (p.1 : Int) (p.2 : Int) = true := by
  obtain ⟨h1, h2, h3, h4, h5, h6, h7⟩ := h
  rw [alive_mem h1]
  constructor
  · rintro ⟨k, k1, k2, rfl, k4⟩
    rw [h6 k k1 k2, k4]
  · intro hl
    obtain ⟨q, hq, e1, e2⟩ := h7 _ _ hl
    obtain ⟨k, hk, rfl⟩ := List.getElem_of_mem hq
    have : p = all[k] := Prod.ext (by omega) (by omega)
    subst this
    exact ⟨k, hk, by omega, rfl, by rw [← h6 k hk (by omega)]; exact hl⟩
theorem Sl.idx (h : Sl t gs fr all onl) : ((aliveL all onl).map (·.1)).Nodup ∧ ∀ i, i ∈ (aliveL all onl).map (·.1) ↔ i < gs.length ∧ gs.getD i 0 ≤ 1000000 ∧ i ∉ fr := by
  have hm := h.alive
  refine ⟨List.pairwise_map.2 (List.Pairwise.imp_of_mem (fun {x y} hx hy hne e => ?_) (alive_nodup h.1 h.2.2.2.2.1)), fun i => ?_⟩
  · obtain ⟨i, i1, i2, i3, i4, i5⟩ := (lives_iff _ _ _ _).1 ((hm x).1 hx)
    obtain ⟨j, j1, j2, j3, j4, j5⟩ := (lives_iff _ _ _ _).1 ((hm y).1 hy)
    have : i = j := by omega
    subst this
    exact hne (Prod.ext e (by omega))
  · rw [List.mem_map]
    constructor
    · rintro ⟨p, hp, rfl⟩
      obtain ⟨i, i1, i2, i3, i4, i5⟩ := (lives_iff _ _ _ _).1 ((hm p).1 hp)
      have : i = p.1 := by omega
      subst this
      exact ⟨i2, i3, i4⟩
    · rintro ⟨i1, i2, i3⟩
      exact ⟨(i, gs.getD i 0), (hm _).2 ((lives_iff _ _ _ _).2 ⟨i, rfl, i1, i2, i3, rfl⟩), rfl⟩
theorem Sl.len (h : Sl t gs fr all onl) : ((aliveL all onl).map (·.1)).length = cntB onl := by rw [List.length_map, alive_len h.1]
theorem Sl.room (h : Sl t gs fr all onl) (ho : Ok 200 gs fr) (hr : fr ≠ [] ∨ gs.length < 200) : cntB onl < 200 := by
  obtain ⟨h1, h2⟩ := h.idx
  rw [← h.len]
  cases fr with
  | nil =>
    have := nodup_len gs.length _ h1 (fun i hi => ((h2 i).1 hi).1)
    rcases hr with c | c
    · exact absurd rfl c
    · omega
  | cons k r =>
    have hk := (ho.2.2.2.2.2 k (by simp)).1
    have hn : (k :: (aliveL all onl).map (·.1)).Nodup := List.nodup_cons.2 ⟨fun hm => ((h2 k).1 hm).2.2 (by simp), h1⟩
    have := nodup_len gs.length _ hn (fun i hi => by
      rcases List.mem_cons.1 hi with rfl | hi
      · exact hk
      · exact ((h2 i).1 hi).1)
    have := ho.2.2.1
    simp only [List.length_cons] at *
    omega
theorem Sl.full (h : Sl t gs fr all onl) (ht : t ≤ 500) (hf : fr = []) (hg : gs.length = 200) : cntB onl = 200 := by
  obtain ⟨h1, h2⟩ := h.idx
  have hp : ((aliveL all onl).map (·.1)).Perm (List.range 200) := (List.perm_ext_iff_of_nodup h1 List.nodup_range).2 (fun i => by
    rw [h2, List.mem_range, hf]
    constructor
    · rintro ⟨a, -⟩; omega
    · intro hi
      refine ⟨by omega, ?_, by simp⟩
      have : gs.getD i 0 ≤ t := by
        rw [List.getD_eq_getElem?_getD, List.getElem?_eq_getElem (by omega)]
        exact h.2.2.1 _ (List.getElem_mem _)
      omega)
  rw [← h.len, hp.length_eq, List.length_range]
theorem take_fresh (h : Sl t gs fr all onl) : takeE gs fr ∉ all := fun hm => by
  have := h.2.2.2.1 _ hm
  cases fr with
  | nil => simp only [takeE] at this; omega
  | cons k r => simp only [takeE] at this; omega
theorem Sl.take (h : Sl t gs fr all onl) (ho : Ok 200 gs fr) (hr : fr ≠ [] ∨ gs.length < 200) : Sl (t + 1) (takeG gs fr) (takeF fr) (all ++ [takeE gs fr]) (onl ++ [true]) := by
  have hnew := take_fresh h
  have hl := lives_take ho hr
  obtain ⟨h1, h2, h3, h4, h5, h6, h7⟩ := h
  have hgd : ∀ i, gs.getD i 0 ≤ t := fun i => by
    by_cases hi : i < gs.length
    · rw [List.getD_eq_getElem?_getD, List.getElem?_eq_getElem hi]
      exact h3 _ (List.getElem_mem _)
    · simp [hi]
  refine ⟨by simp [h1], by simp; omega, fun x hx => ?_, fun p hp => ?_, ?_, fun k k1 k2 => ?_, fun a b hab => ?_⟩
  · cases fr with
    | nil =>
      simp only [takeG, List.mem_append, List.mem_singleton] at hx
      rcases hx with hx | rfl
      · have := h3 x hx; omega
      · omega
    | cons j r =>
      simp only [takeG] at hx
      rcases List.mem_or_eq_of_mem_set hx with hx | rfl
      · have := h3 x hx; omega
      · have := hgd j; omega
  · cases fr with
    | nil =>
      simp only [takeG, takeE, List.length_append, List.length_singleton, getD_push] at hp ⊢
      rcases List.mem_append.1 hp with hp | hp
      · have := h4 p hp
        rw [if_pos this.1]
        exact ⟨by omega, this.2⟩
      · rw [List.mem_singleton.1 hp]
        dsimp only
        rw [if_neg (by omega), if_pos rfl]
        exact ⟨by omega, Nat.le_refl _⟩
    | cons j r =>
      have hj := (ho.2.2.2.2.2 j (by simp)).1
      simp only [takeG, takeE, List.length_set, getD_set hj] at hp ⊢
      rcases List.mem_append.1 hp with hp | hp
      · have := h4 p hp
        refine ⟨this.1, ?_⟩
        split
        · rename_i e
          rw [← e] at this
          omega
        · exact this.2
      · rw [List.mem_singleton.1 hp]
        dsimp only
        rw [if_pos rfl]
        exact ⟨hj, Nat.le_refl _⟩
  · rw [List.nodup_append]
    refine ⟨h5, by simp, fun x hx y hy e => ?_⟩
    rw [List.mem_singleton.1 hy] at e
    exact hnew (e ▸ hx)
  · by_cases c : k < all.length
    · rw [List.getElem_append_left c, List.getElem_append_left (by omega)]
      rw [← h6 k c (by omega), Bool.eq_iff_iff, hl]
      constructor
      · rintro (e | e)
        · simp only [Prod.mk.injEq] at e
          have : all[k] = takeE gs fr := Prod.ext (by omega) (by omega)
          exact absurd (this ▸ List.getElem_mem c) hnew
        · exact e
      · exact .inr
    · have hk : k = all.length := by simp at k1; omega
      subst hk
      rw [List.getElem_append_right (Nat.le_refl _)]
      have e2 : (onl ++ [true])[all.length]'k2 = true := by
        rw [List.getElem_append_right (by omega)]
        simp
      rw [e2]
      simp only [Nat.sub_self, List.getElem_cons_zero]
      rw [hl]
      exact .inl rfl
  · rcases (hl a b).1 hab with e | e
    · simp only [Prod.mk.injEq] at e
      exact ⟨takeE gs fr, by simp, e.1, e.2⟩
    · obtain ⟨p, hp, e1, e2⟩ := h7 a b e
      exact ⟨p, List.mem_append_left _ hp, e1, e2⟩
theorem Sl.at (h : Sl t gs fr all onl) (ht : t ≤ 500) (k : Nat) (h1 : k < all.length) (h2 : k < onl.length) (hk : onl[k] = true) : all[k].1 < gs.length ∧ gs.getD all[k].1 0 = all[k].2 ∧ gs.getD all[k].1 0 ≤ 1000000 ∧ all[k].1 ∉ fr ∧ gs.getD all[k].1 0 ≠ 1000000 := by
  have := (h.2.2.2.2.2.1 k h1 h2).trans hk
  obtain ⟨i, i1, i2, i3, i4, i5⟩ := (lives_iff _ _ _ _).1 this
  have e : i = all[k].1 := by omega
  subst e
  have hle : gs.getD all[k].1 0 ≤ t := by
    rw [List.getD_eq_getElem?_getD, List.getElem?_eq_getElem i2]
    exact h.2.2.1 _ (List.getElem_mem _)
  exact ⟨i2, by omega, i3, i4, by omega⟩
theorem Sl.give (h : Sl t gs fr all onl) (ht : t ≤ 500) (k : Nat) (k1 : k < all.length) (k2 : k < onl.length) (hk : onl[k] = true) : Sl (t + 1) (giveG gs all[k].1) (giveF gs fr all[k].1) all (onl.set k false) := by
  obtain ⟨a1, a2, a3, a4, a5⟩ := h.at ht k k1 k2 hk
  have hl := lives_give a1 a3 a4
  obtain ⟨h1, h2, h3, h4, h5, h6, h7⟩ := h
  have eG : giveG gs all[k].1 = gs := if_neg a5
  rw [eG] at hl ⊢
  refine ⟨by rw [List.length_set]; exact h1, by omega, fun x hx => by have := h3 x hx; omega, h4, h5, fun j j1 j2 => ?_, fun a b hab => h7 a b ((hl a b).1 hab).2⟩
  rw [List.length_set] at j2
  by_cases c : k = j
  · subst c
    rw [List.getElem_set_self, ← Bool.not_eq_true, hl]
    rintro ⟨hne, -⟩
    exact hne (by rw [a2])
  · rw [List.getElem_set_ne c, ← h6 j j1 j2, Bool.eq_iff_iff, hl]
    refine ⟨fun h => h.2, fun h => ⟨fun e => ?_, h⟩⟩
    simp only [Prod.mk.injEq] at e
    exact c (nodup_at h5 k1 j1 (Prod.ext (by omega) (by omega)))
end
end Go.Proofs.YtafmiolehlagkaaGreat
