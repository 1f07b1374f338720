import Derived.Test.YtmfoehaeejhlpaaGreatDoorGaAP
/-
  The reader: clauses, parameters, functions.
-/
namespace Go.Proofs.YtmfoehaeejhlpaaGreatDoor
open Go.RowKit Yn
set_option maxRecDepth 100000
set_option maxHeartbeats 8000000 in
theorem clause_any {n : Nat} (hn : n ≤ 100000) {W : World} {B k : Nat} {ws : List ByteArray} {s : S} (hR : Rd W B k ws s) {x : ByteArray} (hx : x ≠ bs []) {r : R Tree} (hr : r = clauseS ws n x s) (hne : r ≠ .out) : Calls Tryz.prog 137 #[.pointer (some ⟨k, 0, none⟩), .string x] W (Out (isTree W) W B k ws r) := by
  obtain ⟨i0, hi0, hz0, hz1, hz2⟩ := info_parts infoN
  have hk0 := hR.lt
  have H := hide hR
  have M0 := hide (Mv.refl W (fun j => j = k))
  have HNE := hide hne
  have HE := hide hr
  unfold clauseS at HE
  have f2 := fld2
  clear hR hne hr
  obtain ⟨w1, hw1⟩ : ∃ X, X = W.alloc (.cells #[.int .i64 3, .string x, .int .i64 0, .slice none 0 0, .int .i64 0] 51) := ⟨_, rfl⟩
  have b1 : Below W.heap.size W w1 := hw1 ▸ below_alloc W _
  have R1 := hide (H.out.later b1)
  have M1 := hide (M0.out.later b1)
  have N1 : Hid (Np W.heap.size w1 W.heap.size 3 x 0 [] 0) := Np.fresh (Nat.le_refl _) (hw1 ▸ heap_alloc_new W _)
  have HW1 := hide hw1
  clear b1 hw1
  go_enter Tryz.func137, Tryz.ntmps137
  go_wp2_with fail
  rw [← HW1.out]
  clear HW1 M0
  obtain ⟨g, hg⟩ : ∃ q, q = W.heap.size := ⟨_, rfl⟩
  have hlo : W.heap.size ≤ g := by omega
  have N1' : Hid (Np W.heap.size w1 g 3 x 0 [] 0) := by rw [hg]; exact N1.out
  rw [← hg]
  clear N1 hg
  refine (isAt_any R1.out x).mono ?_
  rintro e w2 ⟨rfl, hb⟩
  have R2 := hide (R1.out.later hb)
  have M2 := hide (M1.out.later hb)
  have N2 := hide (N1'.out.later hb)
  clear hb
  clear R1 M1 N1'
  cases b : isAt s x with
  | true =>
    have hne : (hd s).k ≠ 0 ∨ (hd s).t ≠ bs [] := isAt_not_end hx b
    have he := HE.out
    rw [if_pos b] at he
    have HF1 := hide he
    clear he b HE
    go_wp2_with fail
    have JN := hide (next_any R2.out hne)
    unfold tokV at JN
    refine (JN.out).mono ?_
    rintro e w3 ⟨rfl, hR, hm⟩
    have R3 := hide hR
    have M3 := hide (M2.out.trans hm (fun _ _ e => e))
    have N3 := hide (N2.out.mvk hm hk0)
    clear hR hm
    clear R2 M2 N2
    clear JN
    have c4 := N3.out.cells.1.2.2
    have f4 := N3.out.cells.2 4
    have ns := N3.out.setAt ((hd s).a)
    have R4 := hide (R3.out.mv ns.2 (fun j (e : j = g) => by have := R3.out.1; have := N3.out.1; omega))
    have M4 := hide (M3.out.trans ns.2 (fun j hj (e : j = g) => by have := N3.out.1; omega))
    have N4 := hide ns.1
    obtain ⟨w4, hw⟩ : ∃ X, X = w3.setCell ⟨g, 4, none⟩ (.int .i64 (((hd s).a) : Int)) := ⟨_, rfl⟩
    rw [← hw] at R4 M4 N4
    have HW4 := hide hw
    clear hw ns
    clear R3 M3 N3
    go_wp2_with fail
    rw [← HW4.out]
    clear HW4 c4 f4
    refine calls_sub HF1.out HNE.out M4.out (fun h => names_any hn R4.out rfl h) (by (intro a er e w' hE hp; have hp2 := hp; obtain ⟨q, hq1, -⟩ := hp; subst hq1; subst hE; exact ⟨rfl, hp2⟩)) ?_
    intro x5 s5 v5 w5 hq hr hv hR hm hM
    have E5 := hide hr
    have R5 := hide hR
    have M5 := hide hM
    have hsz5 : w4.heap.size ≤ w5.heap.size := hm.size
    have N5 := hide (N4.out.mvk hm hk0)
    have hgl5 := N4.out.lt
    have T5 := hide hv
    clear hq hr hR hm hM hv
    clear HF1 R4 M4 N4
    obtain ⟨ps6, ho, hv, hl⟩ := T5.out
    obtain ⟨ao6, cp6, rfl⟩ := own_len ho
    obtain ⟨ao8, c8, ps8, nv⟩ := N5.out.nv
    have c6 := nv.cell
    have f6 := N5.out.cells.2 3
    clear nv
    have ns := N5.out.setList ho (fun q e => by have := hv q e; have := N5.out.1; omega) (Nds.mono (fun q hq => ⟨by have := hq.1; have := N5.out.1; omega, by have := hq.1; omega, hq.2⟩) _ _ hl)
    have R6 := hide (R5.out.mv ns.2 (fun j (e : j = g) => by have := R5.out.1; have := N5.out.1; omega))
    have M6 := hide (M5.out.trans ns.2 (fun j hj (e : j = g) => by have := N5.out.1; omega))
    have N6 := hide ns.1
    obtain ⟨w6, hw⟩ : ∃ X, X = w5.setCell ⟨g, 3, none⟩ (.slice ao6 x5.length cp6) := ⟨_, rfl⟩
    rw [← hw] at R6 M6 N6
    have HW6 := hide hw
    clear hw ns ho hv hl
    clear R5 M5 N5
    go_wp2_with fail
    rw [← HW6.out]
    clear HW6 c6 f6
    go_ret
    have ER := E5.out
    subst ER
    exact ⟨_, rfl, N6.out.done, R6.out, M6.out⟩
  | false =>
    have he := HE.out
    rw [if_neg (by rw [b]; decide)] at he
    have HF2 := hide he
    clear he b HE
    go_wp2_with fail
    go_ret
    have ER := HF2.out
    subst ER
    exact ⟨_, rfl, N2.out.done, R2.out, M2.out⟩
set_option maxHeartbeats 8000000 in
theorem param_any {n : Nat} (hn : n ≤ 100000) {W : World} {B k : Nat} {ws : List ByteArray} {s : S} (hR : Rd W B k ws s) {r : R Tree} (hr : r = paramS ws n s) (hne : r ≠ .out) : Calls Tryz.prog 140 #[.pointer (some ⟨k, 0, none⟩)] W (Out (isTree W) W B k ws r) := by
  obtain ⟨i0, hi0, hz0, hz1, hz2⟩ := info_parts infoN
  have hk0 := hR.lt
  have H := hide hR
  have M0 := hide (Mv.refl W (fun j => j = k))
  have HNE := hide hne
  have HE := hide hr
  unfold paramS at HE
  clear hR hne hr
  go_enter Tryz.func140, Tryz.ntmps140
  go_wp2_with fail
  refine (node_any H.out 3).mono ?_
  rintro e w1 ⟨g, rfl, hg, hg1, hb⟩
  have R1 := hide (H.out.later hb)
  have M1 := hide (M0.out.later hb)
  have N1 := hide (Np.fresh (lo := W.heap.size) (by have := M0.out.size; omega) hg1)
  clear hb hg1
  clear H M0
  have c2 := N1.out.cells.1.2.1
  have f2 := N1.out.cells.2 1
  have ns := N1.out.setText ⟨#[102, 117, 110, 99]⟩
  have R2 := hide (R1.out.mv ns.2 (fun j (e : j = g) => by have := R1.out.1; have := N1.out.1; omega))
  have M2 := hide (M1.out.trans ns.2 (fun j hj (e : j = g) => by have := N1.out.1; omega))
  have N2 := hide ns.1
  obtain ⟨w2, hw⟩ : ∃ X, X = w1.setCell ⟨g, 1, none⟩ (.string ⟨#[102, 117, 110, 99]⟩) := ⟨_, rfl⟩
  rw [← hw] at R2 M2 N2
  have HW2 := hide hw
  clear hw ns
  clear R1 M1 N1
  go_wp2_with fail
  rw [← HW2.out]
  clear HW2 c2 f2
  refine calls_sub HE.out HNE.out M2.out (fun h => take_any R2.out cOpen (by decide)) (by (intro a er e w' hE hp; have hp2 := hp; obtain ⟨q, hq1, -⟩ := hp; subst hq1; subst hE; exact ⟨rfl, hp2⟩)) ?_
  intro x3 s3 v3 w3 hq hr hv hR hm hM
  have E3 := hide hr
  have R3 := hide hR
  have M3 := hide hM
  have hsz3 : w2.heap.size ≤ w3.heap.size := hm.size
  have N3 := hide (N2.out.mvk hm hk0)
  have hgl3 := N2.out.lt
  subst hv
  unfold tokV
  clear hq hr hR hm hM
  clear HE R2 M2 N2
  go_wp2_with fail
  refine (isAt_any R3.out cClose).mono ?_
  rintro e w4 ⟨rfl, hb⟩
  have R4 := hide (R3.out.later hb)
  have M4 := hide (M3.out.later hb)
  have N4 := hide (N3.out.later hb)
  clear hb
  clear R3 M3 N3
  cases b : isAt s3 cClose with
  | true =>
    have he := E3.out
    rw [if_pos b] at he
    have HF3 := hide he
    clear he b E3
    go_wp2_with fail
    refine calls_sub HF3.out HNE.out M4.out (fun h => take_any R4.out cClose (by decide)) (by (intro a er e w' hE hp; have hp2 := hp; obtain ⟨q, hq1, -⟩ := hp; subst hq1; subst hE; exact ⟨rfl, hp2⟩)) ?_
    intro x5 s5 v5 w5 hq hr hv hR hm hM
    have E5 := hide hr
    have R5 := hide hR
    have M5 := hide hM
    have hsz5 : w4.heap.size ≤ w5.heap.size := hm.size
    have N5 := hide (N4.out.mvk hm hk0)
    have hgl5 := N4.out.lt
    subst hv
    unfold tokV
    clear hq hr hR hm hM
    clear HF3 R4 M4 N4
    go_wp2_with fail
    go_ret
    have ER := E5.out
    subst ER
    exact ⟨_, rfl, N5.out.done, R5.out, M5.out⟩
  | false =>
    have he := E3.out
    rw [if_neg (by rw [b]; decide)] at he
    have HF4 := hide he
    clear he b E3
    go_wp2_with fail
    refine calls_sub HF4.out HNE.out M4.out (fun h => names_any hn R4.out rfl h) (by (intro a er e w' hE hp; have hp2 := hp; obtain ⟨q, hq1, -⟩ := hp; subst hq1; subst hE; exact ⟨rfl, hp2⟩)) ?_
    intro x5 s5 v5 w5 hq hr hv hR hm hM
    have E5 := hide hr
    have R5 := hide hR
    have M5 := hide hM
    have hsz5 : w4.heap.size ≤ w5.heap.size := hm.size
    have N5 := hide (N4.out.mvk hm hk0)
    have hgl5 := N4.out.lt
    have T5 := hide hv
    clear hq hr hR hm hM hv
    clear HF4 R4 M4 N4
    obtain ⟨ps6, ho, hv, hl⟩ := T5.out
    obtain ⟨ao6, cp6, rfl⟩ := own_len ho
    obtain ⟨ao8, c8, ps8, nv⟩ := N5.out.nv
    have c6 := nv.cell
    have f6 := N5.out.cells.2 3
    clear nv
    have ns := N5.out.setList ho (fun q e => by have := hv q e; have := N5.out.1; omega) (Nds.mono (fun q hq => ⟨by have := hq.1; have := N5.out.1; omega, by have := hq.1; omega, hq.2⟩) _ _ hl)
    have R6 := hide (R5.out.mv ns.2 (fun j (e : j = g) => by have := R5.out.1; have := N5.out.1; omega))
    have M6 := hide (M5.out.trans ns.2 (fun j hj (e : j = g) => by have := N5.out.1; omega))
    have N6 := hide ns.1
    obtain ⟨w6, hw⟩ : ∃ X, X = w5.setCell ⟨g, 3, none⟩ (.slice ao6 x5.length cp6) := ⟨_, rfl⟩
    rw [← hw] at R6 M6 N6
    have HW6 := hide hw
    clear hw ns ho hv hl
    clear R5 M5 N5
    go_wp2_with fail
    rw [← HW6.out]
    clear HW6 c6 f6
    refine calls_sub E5.out HNE.out M6.out (fun h => take_any R6.out cClose (by decide)) (by (intro a er e w' hE hp; have hp2 := hp; obtain ⟨q, hq1, -⟩ := hp; subst hq1; subst hE; exact ⟨rfl, hp2⟩)) ?_
    intro x7 s7 v7 w7 hq hr hv hR hm hM
    have E7 := hide hr
    have R7 := hide hR
    have M7 := hide hM
    have hsz7 : w6.heap.size ≤ w7.heap.size := hm.size
    have N7 := hide (N6.out.mvk hm hk0)
    have hgl7 := N6.out.lt
    subst hv
    unfold tokV
    clear hq hr hR hm hM
    clear E5 R6 M6 N6
    go_wp2_with fail
    go_ret
    have ER := E7.out
    subst ER
    exact ⟨_, rfl, N7.out.done, R7.out, M7.out⟩
theorem Rd.upF {W : World} {B k : Nat} {ws : List ByteArray} {s : S} (h : Rd W B k ws s) (hst : s.fu ≠ 16) : Rd (W.setCell ⟨k, 3, none⟩ (.int .i64 ((s.fu + 1 : Nat) : Int))) B k ws (Yn.upF s) ∧ Mv W (W.setCell ⟨k, 3, none⟩ (.int .i64 ((s.fu + 1 : Nat) : Int))) (fun j => j = k) := h.setFu (s.fu + 1) (by have := h.2.1.2.1; omega)
theorem Rd.upY {W : World} {B k : Nat} {ws : List ByteArray} {s : S} (h : Rd W B k ws s) (hst : s.sy ≠ 16) : Rd (W.setCell ⟨k, 2, none⟩ (.int .i64 ((s.sy + 1 : Nat) : Int))) B k ws (Yn.upY s) ∧ Mv W (W.setCell ⟨k, 2, none⟩ (.int .i64 ((s.sy + 1 : Nat) : Int))) (fun j => j = k) := h.setSy (s.sy + 1) (by have := h.2.1.1; omega)
set_option maxHeartbeats 8000000 in
theorem func_any {n : Nat} (hn : n ≤ 100000) (hb : Cbk n) {W : World} {B k : Nat} {ws : List ByteArray} {s : S} (hR : Rd W B k ws s) {r : R Tree} (hr : r = funcS ws n s) (hne : r ≠ .out) : Calls Tryz.prog 107 #[.pointer (some ⟨k, 0, none⟩)] W (Out (isTree W) W B k ws r) := by
  obtain ⟨i0, hi0, hz0, hz1, hz2⟩ := info_parts infoN
  have hk0 := hR.lt
  have H := hide hR
  have M0 := hide (Mv.refl W (fun j => j = k))
  have HNE := hide hne
  have HE := hide hr
  unfold funcS at HE
  have HB := hide hb
  clear hb
  clear hR hne hr
  go_enter Tryz.func107, Tryz.ntmps107
  go_wp2_with fail
  refine (isAt_any H.out wFunc).mono ?_
  rintro e w1 ⟨rfl, hb⟩
  have R1 := hide (H.out.later hb)
  have M1 := hide (M0.out.later hb)
  clear hb
  clear H M0
  cases b : isAt s wFunc with
  | true =>
    have he := HE.out
    rw [if_pos b] at he
    have HF5 := hide he
    clear he b HE
    go_wp2_with fail
    have JC := hide (count_any R1.out ⟨k, 3, none⟩ s.fu 16 R1.out.cells.1.2.1 (R1.out.cells.2 3) (by have := R1.out.2.1.2.1; omega) rfl)
    by_cases hst : s.fu = 16
    · simp only [if_pos hst] at JC
      have he := HF5.out
      rw [if_pos hst] at he
      have HFF := hide he
      clear he
      refine JC.out.mono ?_
      rintro e w9 hp
      have hp2 := Pn.from hp M1.out
      obtain ⟨q, rfl, -⟩ := hp
      have ER := HFF.out
      subst ER
      exact ⟨rfl, hp2⟩
    · simp only [if_neg hst] at JC
      have he := HF5.out
      rw [if_neg hst] at he
      have HFG := hide he
      clear he HF5
      refine JC.out.mono ?_
      rintro e _ ⟨rfl, rfl⟩
      have hu := R1.out.upF hst
      have R2 := hide hu.1
      have M2 := hide (M1.out.trans hu.2 (fun _ _ e => e))
      obtain ⟨w2, hw⟩ : ∃ X, X = w1.setCell ⟨k, 3, none⟩ (.int .i64 ((s.fu + 1 : Nat) : Int)) := ⟨_, rfl⟩
      rw [← hw] at R2 M2 ⊢
      clear hu hw JC hst
      clear R1 M1
      go_wp2_with fail
      refine (node_any R2.out 4).mono ?_
      rintro e w3 ⟨g, rfl, hg, hg1, hb⟩
      have R3 := hide (R2.out.later hb)
      have M3 := hide (M2.out.later hb)
      have N3 := hide (Np.fresh (lo := W.heap.size) (by have := M2.out.size; omega) hg1)
      clear hb hg1
      clear R2 M2
      have N9 : Hid (Np W.heap.size w3 g 4 (bs []) 0 [] (hd s).a) := N3
      clear N3
      go_wp2_with fail
      refine calls_sub HFG.out HNE.out M3.out (fun h => take_any R3.out wFunc (by decide)) (by (intro a er e w' hE hp; have hp2 := hp; obtain ⟨q, hq1, -⟩ := hp; subst hq1; subst hE; exact ⟨rfl, hp2⟩)) ?_
      intro x4 s4 v4 w4 hq hr hv hR hm hM
      have E4 := hide hr
      have R4 := hide hR
      have M4 := hide hM
      have hsz4 : w3.heap.size ≤ w4.heap.size := hm.size
      have N4 := hide (N9.out.mvk hm hk0)
      have hgl4 := N9.out.lt
      subst hv
      unfold tokV
      clear hq hr hR hm hM
      clear HFG R3 M3 N9
      go_wp2_with fail
      refine calls_sub E4.out HNE.out M4.out (fun h => name_any R4.out) (by (intro a er e w' hE hp; have hp2 := hp; obtain ⟨q, hq1, -⟩ := hp; subst hq1; subst hE; exact ⟨rfl, hp2⟩)) ?_
      intro x5 s5 v5 w5 hq hr hv hR hm hM
      have E5 := hide hr
      have R5 := hide hR
      have M5 := hide hM
      have hsz5 : w4.heap.size ≤ w5.heap.size := hm.size
      have N5 := hide (N4.out.mvk hm hk0)
      have hgl5 := N4.out.lt
      subst hv
      clear hq hr hR hm hM
      clear E4 R4 M4 N4
      have c6 := N5.out.cells.1.2.1
      have f6 := N5.out.cells.2 1
      have ns := N5.out.setText x5
      have R6 := hide (R5.out.mv ns.2 (fun j (e : j = g) => by have := R5.out.1; have := N5.out.1; omega))
      have M6 := hide (M5.out.trans ns.2 (fun j hj (e : j = g) => by have := N5.out.1; omega))
      have N6 := hide ns.1
      obtain ⟨w6, hw⟩ : ∃ X, X = w5.setCell ⟨g, 1, none⟩ (.string x5) := ⟨_, rfl⟩
      rw [← hw] at R6 M6 N6
      have HW6 := hide hw
      clear hw ns
      clear R5 M5 N5
      go_wp2_with fail
      rw [← HW6.out]
      clear HW6 c6 f6
      obtain ⟨l, hl0⟩ : ∃ l, l = ([] : List Tree) := ⟨_, rfl⟩
      rw [← hl0] at N6
      have hl : l.length ≤ 5 := by rw [hl0]; simp
      have HL0 := hide hl0
      clear hl0
      have hszA7 := M6.out.size
      have nd := N6.out.later (below_drew w6)
      obtain ⟨ao, c7, ps7, nv⟩ := nd.nv
      have NV7 := hide nv
      have C7 := nv.cell
      clear nd nv
      go_upto_region 7 with fail
      refine wp_region_late (J := fun i => i != 13) (S := fun Wq => Wq.cell? ⟨g, 3, none⟩ = some (.slice ao l.length c7)) (by kernel_rfl) C7 (fun hHeld => ?_)
      refine' wpAnyJ_takeW (i := 0) (oi := { dst := some 23, op := Op.move (Operand.tmp 3), type := 23, pos := "read.go:157", after := #[], guard := none }) (v := _) rfl (by kernel_rfl) (by kernel_rfl) (by kernel_rfl) (fun _ _ _ h => h) (Or.inl ⟨by rfl, ?hyFu1⟩) ?reFu1
      case hyFu1 => (intro W hSw; (try dsimp only at hSw); go_simp; try with_reducible rfl)
      try simp only [Act.put, List.setIfInBounds_toArray, List.set_cons_zero, List.set_cons_succ]
      refine' wpAnyJ_takeW (i := 1) (oi := { dst := some 24, op := Op.move (Operand.tmp 3), type := 23, pos := "read.go:157", after := #[], guard := none }) (v := _) rfl (by kernel_rfl) (by kernel_rfl) (by kernel_rfl) (fun _ _ _ h => h) (Or.inl ⟨by rfl, ?hyFu2⟩) ?reFu2
      case hyFu2 => (intro W hSw; (try dsimp only at hSw); go_simp; try with_reducible rfl)
      try simp only [Act.put, List.setIfInBounds_toArray, List.set_cons_zero, List.set_cons_succ]
      refine' wpAnyJ_takeW (i := 2) (oi := { dst := some 25, op := Op.nilCheck (Operand.tmp 24), type := 0, pos := "read.go:157", after := #[{ on := 1, ground := Ground.data }], guard := none }) (v := _) rfl (by kernel_rfl) (by kernel_rfl) (by kernel_rfl) (fun _ _ _ h => h) (Or.inl ⟨by rfl, ?hyFu3⟩) ?reFu3
      case hyFu3 => (intro W hSw; (try dsimp only at hSw); go_simp; try with_reducible rfl)
      try simp only [Act.put, List.setIfInBounds_toArray, List.set_cons_zero, List.set_cons_succ]
      refine' wpAnyJ_takeW (i := 3) (oi := { dst := some 26, op := Op.fieldAddr 51 (Operand.tmp 25) 3, type := 0, pos := "read.go:157", after := #[{ on := 2, ground := Ground.data }], guard := none }) (v := _) rfl (by kernel_rfl) (by kernel_rfl) (by kernel_rfl) (fun _ _ _ h => h) (Or.inl ⟨by rfl, ?hyFu4⟩) ?reFu4
      case hyFu4 => (intro W hSw; (try dsimp only at hSw); go_simp; try with_reducible rfl)
      try simp only [Act.put, List.setIfInBounds_toArray, List.set_cons_zero, List.set_cons_succ]
      refine' wpAnyJ_take (i := 4) (oi := { dst := some 27, op := Op.load 49 (Operand.tmp 26), type := 49, pos := "read.go:157", after := #[{ on := 3, ground := Ground.data }], guard := none }) (v := _) rfl (by kernel_rfl) (by kernel_rfl) (by kernel_rfl) (by kernel_rfl) (fun _ _ _ h => h) (Or.inl ⟨by rfl, ?hyFu5⟩) (by assumption) ?reFu5
      case hyFu5 => (intro W hSw; (try dsimp only at hSw); go_simp; try with_reducible rfl)
      try simp only [Act.put, List.setIfInBounds_toArray, List.set_cons_zero, List.set_cons_succ]
      refine' wpAnyJ_takeW (i := 5) (oi := { dst := some 28, op := Op.move (Operand.tmp 0), type := 56, pos := "read.go:157", after := #[], guard := none }) (v := _) rfl (by kernel_rfl) (by kernel_rfl) (by kernel_rfl) (fun _ _ _ h => h) (Or.inl ⟨by rfl, ?hyFu6⟩) ?reFu6
      case hyFu6 => (intro W hSw; (try dsimp only at hSw); go_simp; try with_reducible rfl)
      try simp only [Act.put, List.setIfInBounds_toArray, List.set_cons_zero, List.set_cons_succ]
      refine' wpAnyJ_takeW (i := 7) (oi := { dst := some 30, op := Op.move (Operand.tmp 0), type := 56, pos := "read.go:157", after := #[], guard := none }) (v := _) rfl (by kernel_rfl) (by kernel_rfl) (by kernel_rfl) (fun _ _ _ h => h) (Or.inl ⟨by rfl, ?hyFu7⟩) ?reFu7
      case hyFu7 => (intro W hSw; (try dsimp only at hSw); go_simp; try with_reducible rfl)
      try simp only [Act.put, List.setIfInBounds_toArray, List.set_cons_zero, List.set_cons_succ]
      refine wpAnyJ_ready (rs := [6]) (by kernel_rfl) (by simp) ?_
      refine AllReadyJ.cons (o := { dst := some 29, op := Op.call { callee := Callee.value (Operand.func 140), args := #[Operand.tmp 28], argTypes := #[56] }, type := 23, pos := "read.go:157", after := #[{ on := 5, ground := Ground.data }], guard := none }) rfl (fun K hK => ?_) AllReadyJ.nil
      go_simp
      go_at_call 140
      refine calls_sub E5.out HNE.out (M6.out.later (below_drew w6)) (fun h => param_any hn (R6.out.later (below_drew w6)) rfl h) (by (intro a er e w' hE hp; have hp2 := hp; obtain ⟨q, hq1, -⟩ := hp; subst hq1; subst hE; exact ⟨rfl, hp2⟩)) ?_
      intro x8 s8 v8 w8 hq hr hv hR hm hM
      have E8 := hide hr
      have R8 := hide hR
      have M8 := hide hM
      have hsz8 : w6.heap.size ≤ w8.heap.size := hm.size
      obtain ⟨g8, rfl⟩ := Nd.ptr hv
      have T8 := hide (Nd.tight _ _ hv)
      have NV8 := hide (NV7.out.mvk hm hk0)
      clear hq hr hR hm hM hv
      clear E5 R6 M6
      have C8 := NV8.out.cell
      go_simp
      refine hK.out _ _ (fun _ _ => C8) ?_
      clear hK K
      try simp only [Act.put, List.setIfInBounds_toArray, List.set_cons_zero, List.set_cons_succ]
      refine wpAnyJ_ready (rs := [8]) (by kernel_rfl) (by simp) ?_
      refine AllReadyJ.cons (o := { dst := some 31, op := Op.call { callee := Callee.value (Operand.func 138), args := #[Operand.tmp 30], argTypes := #[56] }, type := 23, pos := "read.go:157", after := #[{ on := 7, ground := Ground.data }, { on := 6, ground := Ground.chain }], guard := none }) rfl (fun K hK => ?_) AllReadyJ.nil
      go_simp
      go_at_call 138
      refine calls_sub E8.out HNE.out M8.out (fun h => HB.out _ _ _ _ _ R8.out h) (by (intro a er e w' hE hp; have hp2 := hp; obtain ⟨q, hq1, -⟩ := hp; subst hq1; subst hE; exact ⟨rfl, hp2⟩)) ?_
      intro x9 s9 v9 w9 hq hr hv hR hm hM
      have E9 := hide hr
      have R9 := hide hR
      have M9 := hide hM
      have hsz9 : w8.heap.size ≤ w9.heap.size := hm.size
      have T8q9 := hide (Nd.mv hm (fun q hq (e : q = k) => by have : w6.heap.size ≤ q := hq.1; omega) _ _ T8.out)
      clear T8
      obtain ⟨g9, rfl⟩ := Nd.ptr hv
      have T9 := hide (Nd.tight _ _ hv)
      have NV9 := hide (NV8.out.mvk hm hk0)
      clear hq hr hR hm hM hv
      clear E8 R8 M8
      have C9 := NV9.out.cell
      have CB := (NV9.out.later (below_alloc w9 (.cells #[.pointer (some ⟨g8, 0, none⟩), .pointer (some ⟨g9, 0, none⟩)] 23))).cell
      have hcp := NV9.out.cap
      clear hHeld
      go_simp
      refine hK.out _ _ (fun _ _ => C9) ?_
      clear hK K
      try simp only [Act.put, List.setIfInBounds_toArray, List.set_cons_zero, List.set_cons_succ]
      refine wpAnyJ_ready (rs := [9]) (by kernel_rfl) (by simp) ?_
      refine AllReadyJ.cons (o := { dst := some 32, op := Op.buildSlice 49 2 #[(0, Operand.tmp 29), (1, Operand.tmp 31)], type := 49, pos := "read.go:157", after := #[{ on := 6, ground := Ground.data }, { on := 8, ground := Ground.data }], guard := none }) rfl (fun K hK => ?_) AllReadyJ.nil
      go_simp
      refine hK.out _ _ (fun _ _ => CB) ?_
      clear hK K
      try simp only [Act.put, List.setIfInBounds_toArray, List.set_cons_zero, List.set_cons_succ]
      refine wpAnyJ_ready (rs := [10]) (by kernel_rfl) (by simp) ?_
      refine AllReadyJ.cons (o := { dst := some 33, op := Op.call { callee := Callee.builtin Builtin.append, args := #[Operand.tmp 27, Operand.tmp 32], argTypes := #[49, 49] }, type := 49, pos := "read.go:157", after := #[{ on := 4, ground := Ground.data }, { on := 9, ground := Ground.data }, { on := 8, ground := Ground.chain }], guard := none }) rfl (fun K hK => ?_) AllReadyJ.nil
      refine step_append_lies _ rfl (.tmp 27) (.tmp 32) 49 rfl 0 23 i0 (.pointer none) 1 8 und49 hi0 hz0 hz1 hz2 rfl (by decide) (.slice ao l.length c7) l.length (ps7) (by simp [Act.eval]) (NV9.out.own.alloc _) ⟨w9.heap.size, 0, none⟩ 2 2 [.pointer (some ⟨g8, 0, none⟩), .pointer (some ⟨g9, 0, none⟩)] (by simp [Act.eval]) rfl (by intro j u hj; match j, hj with | 0, hj => simp at hj; subst hj; simp [Addr.add] | 1, hj => simp at hj; subst hj; simp [Addr.add]) (by intro u hu; simp at hu; rcases hu with rfl | rfl <;> rfl) (by omega) (by unfold maxLen; omega) (by omega) (Nat.zero_le _) _ rfl ?_
      intro gZ cZ wZ ho9 hg9 ha9 _
      have hx : Nds (fun q => W.heap.size ≤ q ∧ q ≠ g ∧ (Value.slice ao l.length c7).ownBlock ≠ some q) w9 [x8, x9] [.pointer (some ⟨g8, 0, none⟩), .pointer (some ⟨g9, 0, none⟩)] := by
        rw [Nds]
        refine ⟨_, _, rfl, Nd.mono (fun q hq => NV7.out.old (show w6.heap.size ≤ q by have : w6.heap.size ≤ q := hq.1; omega)) _ _ T8q9.out, ?_⟩
        rw [Nds]
        refine ⟨_, _, rfl, Nd.mono (fun q hq => NV7.out.old (show w6.heap.size ≤ q by have : w8.heap.size ≤ q := hq.1; omega)) _ _ T9.out, ?_⟩
        exact Nds.none
      have np := Nv.push NV9.out hx (by simp) ho9 hg9 ha9
      have CA := np.2.1
      have FA := np.2.2
      have N10 := hide np.1.1
      have R10 := hide (R9.out.mv np.1.2 (fun j (e : W.heap.size ≤ j) => by have := R9.out.1; omega))
      have M10 := hide (M9.out.trans np.1.2 (fun j hj (e : W.heap.size ≤ j) => by omega))
      clear np hx ho9 hg9 ha9 CB
      refine hK.out _ _ (fun _ _ => CA) ?_
      clear hK K
      try simp only [Act.put, List.setIfInBounds_toArray, List.set_cons_zero, List.set_cons_succ]
      refine' wpAnyJ_takeW (i := 11) (oi := { dst := some 34, op := Op.nilCheck (Operand.tmp 23), type := 0, pos := "read.go:157", after := #[{ on := 0, ground := Ground.data }, { on := 0, ground := Ground.phase }, { on := 1, ground := Ground.phase }, { on := 2, ground := Ground.phase }, { on := 3, ground := Ground.phase }, { on := 4, ground := Ground.phase }, { on := 5, ground := Ground.phase }, { on := 6, ground := Ground.phase }, { on := 7, ground := Ground.phase }, { on := 8, ground := Ground.phase }, { on := 9, ground := Ground.phase }, { on := 10, ground := Ground.phase }], guard := none }) (v := _) rfl (by kernel_rfl) (by kernel_rfl) (by kernel_rfl) (fun _ _ _ h => h) (Or.inl ⟨by rfl, ?hyFu8⟩) ?reFu8
      case hyFu8 => (intro W hSw; (try dsimp only at hSw); go_simp; try with_reducible rfl)
      try simp only [Act.put, List.setIfInBounds_toArray, List.set_cons_zero, List.set_cons_succ]
      refine' wpAnyJ_takeW (i := 12) (oi := { dst := some 35, op := Op.fieldAddr 51 (Operand.tmp 34) 3, type := 0, pos := "read.go:157", after := #[{ on := 11, ground := Ground.data }, { on := 0, ground := Ground.phase }, { on := 1, ground := Ground.phase }, { on := 2, ground := Ground.phase }, { on := 3, ground := Ground.phase }, { on := 4, ground := Ground.phase }, { on := 5, ground := Ground.phase }, { on := 6, ground := Ground.phase }, { on := 7, ground := Ground.phase }, { on := 8, ground := Ground.phase }, { on := 9, ground := Ground.phase }, { on := 10, ground := Ground.phase }], guard := none }) (v := _) rfl (by kernel_rfl) (by kernel_rfl) (by kernel_rfl) (fun _ _ _ h => h) (Or.inl ⟨by rfl, ?hyFu9⟩) ?reFu9
      case hyFu9 => (intro W hSw; (try dsimp only at hSw); go_simp; try with_reducible rfl)
      try simp only [Act.put, List.setIfInBounds_toArray, List.set_cons_zero, List.set_cons_succ]
      refine wpAnyJ_ready (rs := [13]) (by kernel_rfl) (by simp) ?_
      refine AllReadyJ.cons (o := { dst := none, op := Op.store 49 (Operand.tmp 35) (Operand.tmp 33), type := 0, pos := "read.go:157", after := #[{ on := 12, ground := Ground.data }, { on := 10, ground := Ground.data }, { on := 10, ground := Ground.chain }, { on := 0, ground := Ground.phase }, { on := 1, ground := Ground.phase }, { on := 2, ground := Ground.phase }, { on := 3, ground := Ground.phase }, { on := 4, ground := Ground.phase }, { on := 5, ground := Ground.phase }, { on := 6, ground := Ground.phase }, { on := 7, ground := Ground.phase }, { on := 8, ground := Ground.phase }, { on := 9, ground := Ground.phase }, { on := 10, ground := Ground.phase }], guard := none }) rfl (fun K hK => ?_) AllReadyJ.nil
      go_simp
      refine hK.out _ _ (fun h => absurd h (by decide)) ?_
      clear hK K
      try simp only [Act.put, List.setIfInBounds_toArray, List.set_cons_zero, List.set_cons_succ]
      refine wpAnyJ_done (by kernel_rfl) ?_ _
      obtain ⟨w10, hw⟩ : ∃ X, X = wZ.setCell ⟨g, 3, none⟩ (.slice (some ⟨gZ, 0, none⟩) (l.length + 2) cZ) := ⟨_, rfl⟩
      rw [← hw] at R10 M10 N10 ⊢
      clear hw CA FA
      clear R9 M9
      clear T8q9 T9 C7 C8 C9 NV7 NV8 NV9 N6
      go_wp2_with fail
      go_ret
      have ER := E9.out
      subst ER
      have e0 := HL0.out
      subst e0
      exact ⟨_, rfl, N10.out.done, R10.out, M10.out⟩
  | false =>
    have he := HE.out
    rw [if_neg (by rw [b]; decide)] at he
    have HF6 := hide he
    clear he b HE
    go_wp2_with fail
    refine (fail_any R1.out 100).mono ?_
    rintro e w9 hp
    have hp2 := Pn.from hp M1.out
    obtain ⟨q, rfl, -⟩ := hp
    have ER := HF6.out
    subst ER
    exact ⟨rfl, hp2⟩
end Go.Proofs.YtmfoehaeejhlpaaGreatDoor
