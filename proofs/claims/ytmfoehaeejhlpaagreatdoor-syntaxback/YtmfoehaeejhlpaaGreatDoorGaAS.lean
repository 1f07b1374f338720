import Derived.Test.YtmfoehaeejhlpaaGreatDoorGaAR
import Derived.Defers
import Derived.Recover
/-
  The reader: systems.
-/
namespace Go.Proofs.YtmfoehaeejhlpaaGreatDoor
open Go.RowKit Yn
set_option maxRecDepth 100000
def cw (i : Nat) : ByteArray := clauseWords.getD i (bs [])
theorem ix_cl (i : Nat) (h : i < 4) (w : World) : (Instr.index 184 (.agg #[.string ⟨#[119, 105, 116, 104]⟩, .string ⟨#[119, 105, 116, 104, 111, 117, 116]⟩, .string ⟨#[114, 101, 97, 100, 115]⟩, .string ⟨#[119, 114, 105, 116, 101, 115]⟩]) (.int .i64 (i : Int))).run Tryz.prog w = .ok (.string (cw i)) w := by
  obtain rfl | rfl | rfl | rfl : i = 0 ∨ i = 1 ∨ i = 2 ∨ i = 3 := by omega
  all_goals kernel_rfl
theorem cw_ne (i : Nat) (h : i < 4) : cw i ≠ bs [] := by
  obtain rfl | rfl | rfl | rfl : i = 0 ∨ i = 1 ∨ i = 2 ∨ i = 3 := by omega
  all_goals decide
theorem clauses_step (ws : List ByteArray) (n i : Nat) (h : i < 4) (l : List Tree) (s : S) : clausesS ws n (clauseWords.drop i) l s = (clauseS ws n (cw i) s).bind fun x s1 => clausesS ws n (clauseWords.drop (i + 1)) (l ++ [x]) s1 := by
  obtain rfl | rfl | rfl | rfl : i = 0 ∨ i = 1 ∨ i = 2 ∨ i = 3 := by omega
  all_goals rfl
theorem clauses_end (ws : List ByteArray) (n : Nat) (l : List Tree) (s : S) : clausesS ws n (clauseWords.drop 4) l s = .ok l s := rfl
theorem Np.ns {lo g op a : Nat} {t : ByteArray} {n : Int} {w : World} (h : Np lo w g op t n [] a) : ∃ ao c ps, Ns lo (g + 1) w g op t n [] a ao c ps := by
  have hl := h.lt
  obtain ⟨ao, c, ps, h1, h2, h3, h4, h5, h6⟩ := h.nv
  rw [Nds] at h5
  exact ⟨ao, c, ps, ⟨h1, by omega, by omega⟩, h2, h3, h4, ⟨h5, by omega⟩, h6⟩
set_option maxHeartbeats 8000000 in
theorem system_any {n : Nat} (hn : n ≤ 100000) (hb : Cbk n) {W : World} {B k : Nat} {ws : List ByteArray} {s : S} (hR : Rd W B k ws s) {r : R Tree} (hr : r = systemS ws n s) (hne : r ≠ .out) : Calls Tryz.prog 106 #[.pointer (some ⟨k, 0, none⟩)] W (Out (isTree W) W B k ws r) := by
  obtain ⟨i0, hi0, hz0, hz1, hz2⟩ := info_parts infoN
  have hk0 := hR.lt
  have H := hide hR
  have M0 := hide (Mv.refl W (fun j => j = k))
  have HNE := hide hne
  have HE := hide hr
  unfold systemS at HE
  have HB := hide hb
  clear hb
  clear hR hne hr
  go_enter Tryz.func106, Tryz.ntmps106
  go_wp2_with fail
  have JC := hide (count_any H.out ⟨k, 2, none⟩ s.sy 16 H.out.cells.1.1 (H.out.cells.2 2) (by have := H.out.2.1.1; omega) rfl)
  by_cases hst : s.sy = 16
  · simp only [if_pos hst] at JC
    have he := HE.out
    rw [if_pos hst] at he
    have HFF := hide he
    clear he
    refine JC.out.mono ?_
    rintro e w9 hp
    have hp2 := Pn.from hp M0.out
    obtain ⟨q, rfl, -⟩ := hp
    have ER := HFF.out
    subst ER
    exact ⟨rfl, hp2⟩
  · simp only [if_neg hst] at JC
    have he := HE.out
    rw [if_neg hst] at he
    have HFG := hide he
    clear he HE
    refine JC.out.mono ?_
    rintro e _ ⟨rfl, rfl⟩
    have hu := H.out.upY hst
    have R1 := hide hu.1
    have M1 := hide (M0.out.trans hu.2 (fun _ _ e => e))
    obtain ⟨w1, hw⟩ : ∃ X, X = W.setCell ⟨k, 2, none⟩ (.int .i64 ((s.sy + 1 : Nat) : Int)) := ⟨_, rfl⟩
    rw [← hw] at R1 M1 ⊢
    clear hu hw JC hst
    clear H M0
    go_wp2_with fail
    refine (node_any R1.out 2).mono ?_
    rintro e w2 ⟨g, rfl, hg, hg1, hb⟩
    have R2 := hide (R1.out.later hb)
    have M2 := hide (M1.out.later hb)
    have N2 := hide (Np.fresh (lo := W.heap.size) (by have := M1.out.size; omega) hg1)
    clear hb hg1
    clear R1 M1
    have N9 : Hid (Np W.heap.size w2 g 2 (bs []) 0 [] (hd s).a) := N2
    clear N2
    go_wp2_with fail
    refine calls_sub HFG.out HNE.out M2.out (fun h => take_any R2.out wSystem (by decide)) (by (intro a er e w' hE hp; have hp2 := hp; obtain ⟨q, hq1, -⟩ := hp; subst hq1; subst hE; exact ⟨rfl, hp2⟩)) ?_
    intro x3 s3 v3 w3 hq hr hv hR hm hM
    have E3 := hide hr
    have R3 := hide hR
    have M3 := hide hM
    have hsz3 : w2.heap.size ≤ w3.heap.size := hm.size
    have N3 := hide (N9.out.mvk hm hk0)
    have hgl3 := N9.out.lt
    subst hv
    unfold tokV
    clear hq hr hR hm hM
    clear HFG R2 M2 N9
    go_wp2_with fail
    refine calls_sub E3.out HNE.out M3.out (fun h => name_any R3.out) (by (intro a er e w' hE hp; have hp2 := hp; obtain ⟨q, hq1, -⟩ := hp; subst hq1; subst hE; exact ⟨rfl, hp2⟩)) ?_
    intro x4 s4 v4 w4 hq hr hv hR hm hM
    have E4 := hide hr
    have R4 := hide hR
    have M4 := hide hM
    have hsz4 : w3.heap.size ≤ w4.heap.size := hm.size
    have N4 := hide (N3.out.mvk hm hk0)
    have hgl4 := N3.out.lt
    subst hv
    clear hq hr hR hm hM
    clear E3 R3 M3 N3
    have c5 := N4.out.cells.1.2.1
    have f5 := N4.out.cells.2 1
    have ns := N4.out.setText x4
    have R5 := hide (R4.out.mv ns.2 (fun j (e : j = g) => by have := R4.out.1; have := N4.out.1; omega))
    have M5 := hide (M4.out.trans ns.2 (fun j hj (e : j = g) => by have := N4.out.1; omega))
    have N5 := hide ns.1
    obtain ⟨w5, hw⟩ : ∃ X, X = w4.setCell ⟨g, 1, none⟩ (.string x4) := ⟨_, rfl⟩
    rw [← hw] at R5 M5 N5
    have HW5 := hide hw
    clear hw ns
    clear R4 M4 N4
    go_wp2_with fail
    rw [← HW5.out]
    clear HW5 c5 f5
    obtain ⟨ao, c7, ps7, ns7⟩ := N5.out.ns
    have NS7 := hide ns7
    clear ns7
    go_loopg [24] 4 (fun G v24 Wr => ∃ (i : Nat) (l : List Tree) (u : S) (hi : Nat) (ao : Option Addr) (c7 : Nat) (ps7 : List Value), G = 4 - i ∧ i ≤ 4 ∧ v24 = .int .i64 (i : Int) ∧ l.length = i ∧ Hid (r = (clausesS ws n (clauseWords.drop i) l u).bind fun l s3 => (Yn.block ws n s3).bind fun b s4 => R.ok (.mk 2 x4 0 (l.map (placed b.at) ++ [b]) (hd s).a) s4) ∧ Hid (Ns W.heap.size hi Wr g 2 x4 0 l (hd s).a ao c7 ps7) ∧ Hid (Rd Wr B k ws u) ∧ Hid (Mv W Wr (fun j => j = k)))
    case atStart => exact ⟨0, [], s4, _, _, _, _, rfl, by omega, rfl, rfl, E4, NS7, R5, M5⟩
    case round =>
      clear E4 N5 R5 M5 NS7 ao c7 ps7
      obtain ⟨i, l, u, hi, ao, c7, ps7, hG, hi4, rfl, hli, E9, S9, R9, M9⟩ := hrel
      have hz9 := M9.out.size
      have hll : l.length ≤ 4 := by omega
      have HLI := hide hli
      clear hli
      by_cases hlt : i < 4
      · have t1 : (i : Int) < 4 := by omega
        have hix := ix_cl i hlt
        have he := E9.out
        rw [clauses_step ws n i hlt, bind_assoc] at he
        have E8 := hide he
        clear he E9
        have s0 := S9.out.later (below_drew wr)
        have NSd := hide s0
        have C7 := s0.nv.cell
        clear s0
        go_upto_region 8 with fail
        refine wp_region_late (J := fun i => i != 12) (S := fun Wq => Wq.cell? ⟨g, 3, none⟩ = some (.slice ao l.length c7)) (by kernel_rfl) C7 (fun hHeld => ?_)
        refine' wpAnyJ_takeW (i := 0) (oi := { dst := some 27, op := Op.move (Operand.tmp 3), type := 23, pos := "read.go:127", after := #[], guard := none }) (v := _) rfl (by kernel_rfl) (by kernel_rfl) (by kernel_rfl) (fun _ _ _ h => h) (Or.inl ⟨by rfl, ?hyCy1⟩) ?reCy1
        case hyCy1 => (intro W hSw; (try dsimp only at hSw); go_simp; try with_reducible rfl)
        try simp only [Act.put, List.setIfInBounds_toArray, List.set_cons_zero, List.set_cons_succ]
        refine' wpAnyJ_takeW (i := 1) (oi := { dst := some 28, op := Op.move (Operand.tmp 3), type := 23, pos := "read.go:127", after := #[], guard := none }) (v := _) rfl (by kernel_rfl) (by kernel_rfl) (by kernel_rfl) (fun _ _ _ h => h) (Or.inl ⟨by rfl, ?hyCy2⟩) ?reCy2
        case hyCy2 => (intro W hSw; (try dsimp only at hSw); go_simp; try with_reducible rfl)
        try simp only [Act.put, List.setIfInBounds_toArray, List.set_cons_zero, List.set_cons_succ]
        refine' wpAnyJ_takeW (i := 2) (oi := { dst := some 29, op := Op.nilCheck (Operand.tmp 28), type := 0, pos := "read.go:127", after := #[{ on := 1, ground := Ground.data }], guard := none }) (v := _) rfl (by kernel_rfl) (by kernel_rfl) (by kernel_rfl) (fun _ _ _ h => h) (Or.inl ⟨by rfl, ?hyCy3⟩) ?reCy3
        case hyCy3 => (intro W hSw; (try dsimp only at hSw); go_simp; try with_reducible rfl)
        try simp only [Act.put, List.setIfInBounds_toArray, List.set_cons_zero, List.set_cons_succ]
        refine' wpAnyJ_takeW (i := 3) (oi := { dst := some 30, op := Op.fieldAddr 51 (Operand.tmp 29) 3, type := 0, pos := "read.go:127", after := #[{ on := 2, ground := Ground.data }], guard := none }) (v := _) rfl (by kernel_rfl) (by kernel_rfl) (by kernel_rfl) (fun _ _ _ h => h) (Or.inl ⟨by rfl, ?hyCy4⟩) ?reCy4
        case hyCy4 => (intro W hSw; (try dsimp only at hSw); go_simp; try with_reducible rfl)
        try simp only [Act.put, List.setIfInBounds_toArray, List.set_cons_zero, List.set_cons_succ]
        refine' wpAnyJ_take (i := 4) (oi := { dst := some 31, op := Op.load 49 (Operand.tmp 30), type := 49, pos := "read.go:127", after := #[{ on := 3, ground := Ground.data }], guard := none }) (v := _) rfl (by kernel_rfl) (by kernel_rfl) (by kernel_rfl) (by kernel_rfl) (fun _ _ _ h => h) (Or.inl ⟨by rfl, ?hyCy5⟩) (by assumption) ?reCy5
        case hyCy5 => (intro W hSw; (try dsimp only at hSw); go_simp; try with_reducible rfl)
        try simp only [Act.put, List.setIfInBounds_toArray, List.set_cons_zero, List.set_cons_succ]
        refine' wpAnyJ_takeW (i := 5) (oi := { dst := some 32, op := Op.move (Operand.tmp 0), type := 56, pos := "read.go:127", after := #[], guard := none }) (v := _) rfl (by kernel_rfl) (by kernel_rfl) (by kernel_rfl) (fun _ _ _ h => h) (Or.inl ⟨by rfl, ?hyCy6⟩) ?reCy6
        case hyCy6 => (intro W hSw; (try dsimp only at hSw); go_simp; try with_reducible rfl)
        try simp only [Act.put, List.setIfInBounds_toArray, List.set_cons_zero, List.set_cons_succ]
        refine' wpAnyJ_takeW (i := 6) (oi := { dst := some 33, op := Op.move (Operand.tmp 5), type := 9, pos := "read.go:127", after := #[], guard := none }) (v := _) rfl (by kernel_rfl) (by kernel_rfl) (by kernel_rfl) (fun _ _ _ h => h) (Or.inl ⟨by rfl, ?hyCy7⟩) ?reCy7
        case hyCy7 => (intro W hSw; (try dsimp only at hSw); go_simp; try with_reducible rfl)
        try simp only [Act.put, List.setIfInBounds_toArray, List.set_cons_zero, List.set_cons_succ]
        refine wpAnyJ_ready (rs := [7]) (by kernel_rfl) (by simp) ?_
        refine AllReadyJ.cons (o := { dst := some 34, op := Op.call { callee := Callee.value (Operand.func 137), args := #[Operand.tmp 32, Operand.tmp 33], argTypes := #[56, 9] }, type := 23, pos := "read.go:127", after := #[{ on := 5, ground := Ground.data }, { on := 6, ground := Ground.data }], guard := none }) rfl (fun K hK => ?_) AllReadyJ.nil
        go_simp
        go_at_call 137
        refine calls_sub E8.out HNE.out (M9.out.later (below_drew wr)) (fun h => clause_any hn (R9.out.later (below_drew wr)) (cw_ne i hlt) rfl h) (by (intro a er e w' hE hp; have hp2 := hp; obtain ⟨q, hq1, -⟩ := hp; subst hq1; subst hE; exact ⟨rfl, hp2⟩)) ?_
        intro x21 s21 v21 w21 hq hr hv hR hm hM
        have E21 := hide hr
        have R21 := hide hR
        have M21 := hide hM
        have hsz21 : wr.heap.size ≤ w21.heap.size := hm.size
        obtain ⟨g21, rfl⟩ := Nd.ptr hv
        have T21 := hide (Nd.tight _ _ hv)
        have NS21 := hide (NSd.out.mvk hm hk0)
        clear hq hr hR hm hM hv
        clear E8 R9 M9
        have C21 := NS21.out.nv.cell
        have CB := (NS21.out.nv.later (below_alloc w21 (.cells #[.pointer (some ⟨g21, 0, none⟩)] 23))).cell
        have hcp := NS21.out.nv.cap
        clear hHeld
        go_simp
        refine hK.out _ _ (fun _ _ => C21) ?_
        clear hK K
        try simp only [Act.put, List.setIfInBounds_toArray, List.set_cons_zero, List.set_cons_succ]
        refine wpAnyJ_ready (rs := [8]) (by kernel_rfl) (by simp) ?_
        refine AllReadyJ.cons (o := { dst := some 35, op := Op.buildSlice 49 1 #[(0, Operand.tmp 34)], type := 49, pos := "read.go:127", after := #[{ on := 7, ground := Ground.data }], guard := none }) rfl (fun K hK => ?_) AllReadyJ.nil
        go_simp
        refine hK.out _ _ (fun _ _ => CB) ?_
        clear hK K
        try simp only [Act.put, List.setIfInBounds_toArray, List.set_cons_zero, List.set_cons_succ]
        refine wpAnyJ_ready (rs := [9]) (by kernel_rfl) (by simp) ?_
        refine AllReadyJ.cons (o := { dst := some 36, op := Op.call { callee := Callee.builtin Builtin.append, args := #[Operand.tmp 31, Operand.tmp 35], argTypes := #[49, 49] }, type := 49, pos := "read.go:127", after := #[{ on := 4, ground := Ground.data }, { on := 8, ground := Ground.data }, { on := 7, ground := Ground.chain }], guard := none }) rfl (fun K hK => ?_) AllReadyJ.nil
        refine step_append_lies _ rfl (.tmp 31) (.tmp 35) 49 rfl 0 23 i0 (.pointer none) 1 8 und49 hi0 hz0 hz1 hz2 rfl (by decide) (.slice ao l.length c7) l.length (ps7) (by simp [Act.eval]) (NS21.out.nv.own.alloc _) ⟨w21.heap.size, 0, none⟩ 1 1 [.pointer (some ⟨g21, 0, none⟩)] (by simp [Act.eval]) rfl (by intro j u hj; match j, hj with | 0, hj => simp at hj; subst hj; simp [Addr.add]) (by intro u hu; simp at hu; subst hu; rfl) (by omega) (by unfold maxLen; omega) (by omega) (Nat.zero_le _) _ rfl ?_
        intro gZ cZ wZ ho9 hg9 ha9 _
        have hlv := NSd.out.nv.own.lt
        have hcZ := own_cap ho9
        have pu := Ns.push NS21.out (h2 := wr.heap.size) (by have := NSd.out.1.2.2; exact this) hsz21 (fun q e => (hlv q e).2) T21.out (by simp) ho9 hg9 ha9 hcZ
        have np := Nv.push NS21.out.nv (xs := [x21]) (qs := [.pointer (some ⟨g21, 0, none⟩)]) (by rw [Nds]; exact ⟨_, _, rfl, Nd.mono (fun q hq => NSd.out.nv.old (show wr.heap.size ≤ q from hq.1)) _ _ T21.out, Nds.none⟩) (by simp) ho9 hg9 ha9
        have CA := np.2.1
        have FA := np.2.2
        have NSn := hide pu
        have Rn := hide (R21.out.mv np.1.2 (fun j (e : W.heap.size ≤ j) => by have := R21.out.1; omega))
        have Mn := hide (M21.out.trans np.1.2 (fun j hj (e : W.heap.size ≤ j) => by omega))
        clear np pu ho9 hg9 ha9 CB hlv hcZ
        refine hK.out _ _ (fun _ _ => CA) ?_
        clear hK K
        try simp only [Act.put, List.setIfInBounds_toArray, List.set_cons_zero, List.set_cons_succ]
        refine' wpAnyJ_takeW (i := 10) (oi := { dst := some 37, op := Op.nilCheck (Operand.tmp 27), type := 0, pos := "read.go:127", after := #[{ on := 0, ground := Ground.data }, { on := 0, ground := Ground.phase }, { on := 1, ground := Ground.phase }, { on := 2, ground := Ground.phase }, { on := 3, ground := Ground.phase }, { on := 4, ground := Ground.phase }, { on := 5, ground := Ground.phase }, { on := 6, ground := Ground.phase }, { on := 7, ground := Ground.phase }, { on := 8, ground := Ground.phase }, { on := 9, ground := Ground.phase }], guard := none }) (v := _) rfl (by kernel_rfl) (by kernel_rfl) (by kernel_rfl) (fun _ _ _ h => h) (Or.inl ⟨by rfl, ?hyCy8⟩) ?reCy8
        case hyCy8 => (intro W hSw; (try dsimp only at hSw); go_simp; try with_reducible rfl)
        try simp only [Act.put, List.setIfInBounds_toArray, List.set_cons_zero, List.set_cons_succ]
        refine' wpAnyJ_takeW (i := 11) (oi := { dst := some 38, op := Op.fieldAddr 51 (Operand.tmp 37) 3, type := 0, pos := "read.go:127", after := #[{ on := 10, ground := Ground.data }, { on := 0, ground := Ground.phase }, { on := 1, ground := Ground.phase }, { on := 2, ground := Ground.phase }, { on := 3, ground := Ground.phase }, { on := 4, ground := Ground.phase }, { on := 5, ground := Ground.phase }, { on := 6, ground := Ground.phase }, { on := 7, ground := Ground.phase }, { on := 8, ground := Ground.phase }, { on := 9, ground := Ground.phase }], guard := none }) (v := _) rfl (by kernel_rfl) (by kernel_rfl) (by kernel_rfl) (fun _ _ _ h => h) (Or.inl ⟨by rfl, ?hyCy9⟩) ?reCy9
        case hyCy9 => (intro W hSw; (try dsimp only at hSw); go_simp; try with_reducible rfl)
        try simp only [Act.put, List.setIfInBounds_toArray, List.set_cons_zero, List.set_cons_succ]
        refine wpAnyJ_ready (rs := [12]) (by kernel_rfl) (by simp) ?_
        refine AllReadyJ.cons (o := { dst := none, op := Op.store 49 (Operand.tmp 38) (Operand.tmp 36), type := 0, pos := "read.go:127", after := #[{ on := 11, ground := Ground.data }, { on := 9, ground := Ground.data }, { on := 9, ground := Ground.chain }, { on := 0, ground := Ground.phase }, { on := 1, ground := Ground.phase }, { on := 2, ground := Ground.phase }, { on := 3, ground := Ground.phase }, { on := 4, ground := Ground.phase }, { on := 5, ground := Ground.phase }, { on := 6, ground := Ground.phase }, { on := 7, ground := Ground.phase }, { on := 8, ground := Ground.phase }, { on := 9, ground := Ground.phase }], guard := none }) rfl (fun K hK => ?_) AllReadyJ.nil
        go_simp
        refine hK.out _ _ (fun h => absurd h (by decide)) ?_
        clear hK K
        try simp only [Act.put, List.setIfInBounds_toArray, List.set_cons_zero, List.set_cons_succ]
        refine wpAnyJ_done (by kernel_rfl) ?_ _
        obtain ⟨wn, hw⟩ : ∃ X, X = wZ.setCell ⟨g, 3, none⟩ (.slice (some ⟨gZ, 0, none⟩) (l.length + 1) cZ) := ⟨_, rfl⟩
        rw [← hw] at NSn Rn Mn ⊢
        clear hw CA FA C7 C21
        go_wp2_with fail
        go_roundg (4 - (i + 1))
        case measure => omega
        case rel => exact ⟨i + 1, l ++ [x21], s21, _, _, _, _, rfl, by omega, by go_num, by have := HLI.out; simp; omega, E21, NSn, Rn, Mn⟩
      · obtain rfl : i = 4 := by omega
        have he := E9.out
        rw [clauses_end] at he
        have E8 : Hid (r = (Yn.block ws n u).bind fun b s4 => R.ok (.mk 2 x4 0 (l.map (placed b.at) ++ [b]) (hd s).a) s4) := he
        clear he E9
        go_wp2_with fail
        refine calls_sub E8.out HNE.out M9.out (fun h => HB.out _ _ _ _ _ R9.out h) (by (intro a er e w' hE hp; have hp2 := hp; obtain ⟨q, hq1, -⟩ := hp; subst hq1; subst hE; exact ⟨rfl, hp2⟩)) ?_
        intro x41 s41 v41 w41 hq hr hv hR hm hM
        have E41 := hide hr
        have R41 := hide hR
        have M41 := hide hM
        have hsz41 : wr.heap.size ≤ w41.heap.size := hm.size
        obtain ⟨g41, rfl⟩ := Nd.ptr hv
        have T41 := hide (Nd.tight _ _ hv)
        have NS41 := hide (S9.out.mvk hm hk0)
        clear hq hr hR hm hM hv
        clear E8 R9 M9
        obtain ⟨ob, tb, zb, lb, ab⟩ := x41
        have td := T41.out
        rw [Nd] at td
        obtain ⟨gb, vb, vs, eb, -, hgb, -, -, -⟩ := td
        cases eb
        obtain ⟨hn1, hn2, hn3, hn4, hn5, hn6, hn7⟩ := NS41.out
        obtain ⟨L, hL⟩ : ∃ L, L = l.length := ⟨_, rfl⟩
        rw [← hL] at hn2 hn3 hn4 hn5 hn6
        have hL4 : L = 4 := by rw [hL]; exact HLI.out
        obtain ⟨gA, cA, eA, -⟩ := own_form hn3 (by omega)
        cases eA
        have SG := hide hn5
        have G0 : Hid (w41.heap[g]? = some (.cells #[.int .i64 2, .string x4, .int .i64 0, .slice (some ⟨gA, 0, none⟩) L c7, .int .i64 ((hd s).a : Int)] 51 (0, 0))) := hn2
        have OW := hide hn3
        have KK := hide hn4
        have GB := hide hgb
        have C1 : w41.cell? ⟨g, 3, none⟩ = some (.slice (some ⟨gA, 0, none⟩) L c7) := by rw [cell_of_row w41 g _ _ 51 (0, 0) hn2]; rfl
        have HL := hide hL
        have HL4 := hide hL4
        have hLb : L ≤ 4 := by omega
        have hz41 := M41.out.size
        have HHI := hide S9.out.1.2.2
        have HAZ0 := hide S9.out.2.2.1.lt
        clear hn2 hn3 hn4 hn5 hL hL4 hgb NS41 HLI hll S9
        obtain ⟨zr, hzr⟩ : ∃ q, q = wr.heap.size := ⟨_, rfl⟩
        have hhi : hi ≤ zr := by rw [hzr]; exact HHI.out
        have hzr2 : zr ≤ w41.heap.size := by rw [hzr]; exact hsz41
        have T41x : Hid (Nd (fun q => zr ≤ q ∧ q < w41.heap.size) w41 (.mk ob tb zb lb ab) (.pointer (some ⟨g41, 0, none⟩))) := by rw [hzr]; exact T41.out
        have hWz : W.heap.size ≤ zr := by rw [hzr]; exact hz9
        have HAZ : Hid (∀ q, (Value.slice (some ⟨gA, 0, none⟩) l.length c7).ownBlock = some q → q < zr) := fun q e => by rw [hzr]; exact (HAZ0.out q e).2
        clear HAZ0
        clear hzr T41 hsz41 HHI hz9
        go_wp2_with fail
        clear C1
        go_loopg [47] 4 (fun G v47 Wr => ∃ (j : Nat), G = 4 - j ∧ j ≤ 4 ∧ v47 = .int .i64 (j : Int) ∧ Hid (Sg Wr (fun q => q ≠ g ∧ (Value.slice (some ⟨gA, 0, none⟩) L c7).ownBlock ≠ some q) hi W.heap.size ((l.take j).map (placed ab) ++ l.drop j) ps7) ∧ Hid (Wr.heap[g]? = some (.cells #[.int .i64 2, .string x4, .int .i64 0, .slice (some ⟨gA, 0, none⟩) L c7, .int .i64 ((hd s).a : Int)] 51 (0, 0))) ∧ Hid (Wr.ownsRow 0 23 1 (.slice (some ⟨gA, 0, none⟩) L c7) L ps7) ∧ Hid (Nd (fun q => zr ≤ q ∧ q < w41.heap.size) Wr (.mk ob tb zb lb ab) (.pointer (some ⟨g41, 0, none⟩))) ∧ Hid (Wr.heap[g41]? = some (.cells #[.int .i64 (ob : Int), .string tb, .int .i64 zb, vb, .int .i64 (ab : Int)] 51 (0, 0))) ∧ Hid (Rd Wr B k ws s41) ∧ Hid (Mv W Wr (fun j => j = k)) ∧ w41.heap.size ≤ Wr.heap.size)
        case atStart => exact ⟨0, rfl, by omega, rfl, SG, G0, OW, T41x, GB, R41, M41, Nat.le_refl _⟩
        case round =>
          clear SG G0 OW T41x GB R41 M41
          obtain ⟨j, hG, hj4, rfl, SG, G0, OW, TB, GB, R5, M5, hzw⟩ := hrel
          by_cases hlt : j < 4
          · have t1 : (j : Int) < (L : Int) := by have := HL4.out; omega
            have hjl : j < l.length := by have := HL4.out; have := HL.out; omega
            have hd9 := List.drop_eq_getElem_cons hjl
            have sg := SG.out
            rw [hd9] at sg
            have htk : l.take (j + 1) = l.take j ++ [l[j]] := List.take_succ_eq_append_getElem hjl
            generalize l[j] = xj at hd9 sg htk
            obtain ⟨ox, tx, zx, lx, ax⟩ := xj
            obtain ⟨gp, vl, vs, hp1, hp2, hp3, hp4, hp5, hp6⟩ := Sg.get (l1 := (l.take j).map (placed ab)) sg
            have hlen : ((l.take j).map (placed ab)).length = j := by rw [List.length_map, List.length_take]; omega
            rw [hlen] at hp1
            have q1 : wr.cell? ⟨gA, j, none⟩ = some (.pointer (some ⟨gp, 0, none⟩)) := by rw [OW.out.cellAt j (by have := HL4.out; omega)]; exact hp1
            obtain ⟨av, cv, rfl⟩ := own_len hp6
            have q2 : wr.cell? ⟨gp, 3, none⟩ = some (.slice av lx.length cv) := by rw [cell_of_row wr gp _ _ 51 (0, 0) hp5]; rfl
            have hlx9 := own_cap hp6
            have SG9 := hide sg
            have HP1 := hide hp1
            have HP5 := hide hp5
            have HTK := hide htk
            have hapn := hp4.1
            have HAP := hide hp4
            have HLN := hide hlen
            have hcw := own_cap OW.out
            clear sg hp1 hp5 hp6 hd9 htk hp4 hlen SG
            by_cases hlx : lx = []
            · have QQ := hide hlx
              subst hlx
              have q2e : wr.cell? ⟨gp, 3, none⟩ = some (.slice av 0 cv) := q2
              have q3 : wr.cell? ⟨g41, 4, none⟩ = some (.int .i64 (ab : Int)) := by rw [cell_of_row wr g41 _ _ 51 (0, 0) GB.out]; rfl
              have q4 : wr.cell? ⟨gp, 4, none⟩ = some (.int .i64 (ax : Int)) := by rw [cell_of_row wr gp _ _ 51 (0, 0) HP5.out]; rfl
              have q5 : wr.frozen? ⟨gp, 4, none⟩ = false := frozen_of_row wr gp 4 _ 51 HP5.out
              obtain ⟨hs1, -⟩ := Sg.place (A := ab) (l1 := (l.take j).map (placed ab)) SG9.out (by rw [HLN.out]; exact HP1.out)
              have hm : Mv wr (wr.setCell ⟨gp, 4, none⟩ (.int .i64 (ab : Int))) (fun q => q = gp) := (Mv.refl wr (fun q => q = gp)).set (g := gp) rfl _ _
              have S6 : Hid (Sg (wr.setCell ⟨gp, 4, none⟩ (.int .i64 (ab : Int))) (fun q => q ≠ g ∧ (Value.slice (some ⟨gA, 0, none⟩) L c7).ownBlock ≠ some q) hi W.heap.size ((l.take (j + 1)).map (placed ab) ++ l.drop (j + 1)) ps7) := by
                unfold Hid
                rw [HTK.out, List.map_append, List.append_assoc]
                exact hs1
              have G6 := hide (hm.at G0.out (fun (e : g = gp) => hapn e.symm))
              have O6 := hide (hm.own OW.out (fun q e (e2 : q = gp) => HAP.out.2 (e2 ▸ e)))
              have T6 := hide (Nd.mv hm (fun q hq (e : q = gp) => by have := hq.1; omega) _ _ TB.out)
              have hgbz : zr ≤ g41 := by
                have td := TB.out
                rw [Nd] at td
                obtain ⟨g0, _, _, e0, hx0, -⟩ := td
                cases e0
                exact hx0.1
              have B6 := hide (hm.at GB.out (fun (e : g41 = gp) => by omega))
              have R6 := hide (R5.out.mv hm (fun q (e : q = gp) => by have := R5.out.1; omega))
              have M6 := hide (M5.out.trans hm (fun q hq (e : q = gp) => by omega))
              have hz6 := hm.size
              obtain ⟨w6, hw6⟩ : ∃ X, X = wr.setCell ⟨gp, 4, none⟩ (.int .i64 (ab : Int)) := ⟨_, rfl⟩
              rw [← hw6] at S6 G6 O6 T6 B6 R6 M6 hz6
              have HW6 := hide hw6
              clear hw6 hs1 hm q2 QQ SG9 HP1 HP5 HTK HAP HLN G0 OW TB GB R5 M5
              go_wp2_with fail
              rw [← HW6.out]
              go_roundg (4 - (j + 1))
              case measure => omega
              case rel => exact ⟨j + 1, rfl, by omega, by go_num, S6, G6, O6, T6, B6, R6, M6, by omega⟩
            · have hlx0 : lx.length ≠ 0 := fun e => hlx (List.eq_nil_of_length_eq_zero e)
              have t2 : ((lx.length : Int) == 0) = false := by rw [beq_eq_false_iff_ne]; omega
              have S6 : Hid (Sg wr (fun q => q ≠ g ∧ (Value.slice (some ⟨gA, 0, none⟩) L c7).ownBlock ≠ some q) hi W.heap.size ((l.take (j + 1)).map (placed ab) ++ l.drop (j + 1)) ps7) := by
                unfold Hid
                rw [HTK.out, List.map_append, List.append_assoc]
                have e1 : placed ab (.mk ox tx zx lx ax) = .mk ox tx zx lx ax := by
                  rw [placed]
                  cases lx with
                  | nil => exact absurd rfl hlx
                  | cons _ _ => rfl
                show Sg wr _ hi W.heap.size ((l.take j).map (placed ab) ++ (placed ab (.mk ox tx zx lx ax) :: l.drop (j + 1))) ps7
                rw [e1]
                exact SG9.out
              clear SG9 HP1 HP5 HTK HAP HLN hlx
              go_wp2_with fail
              go_roundg (4 - (j + 1))
              case measure => omega
              case rel => exact ⟨j + 1, rfl, by omega, by go_num, S6, G0, OW, TB, GB, R5, M5, by omega⟩
          · obtain rfl : j = 4 := by omega
            have t1 : ¬ (4 : Int) < (L : Int) := by have := HL4.out; omega
            have hlm : (l.map (placed ab)).length = L := by rw [List.length_map]; exact HL.out.symm
            have hcap := own_cap OW.out
            have NV : Hid (Nv W.heap.size wr g 2 x4 0 (l.map (placed ab)) (hd s).a (some ⟨gA, 0, none⟩) c7 ps7) := by
              have sg := SG.out
              rw [List.take_of_length_le (by have := HL4.out; have := HL.out; omega), List.drop_eq_nil_of_le (by have := HL4.out; have := HL.out; omega), List.append_nil] at sg
              refine ⟨hn1.1, by rw [hlm]; exact G0.out, by rw [hlm]; exact OW.out, by rw [hlm]; exact KK.out, ?_, by rw [hlm]; exact hcap.1, hcap.2⟩
              rw [hlm]
              exact Nds.mono (fun q hq => ⟨hq.1, hq.2.1, hq.2.2⟩) _ _ sg.nds
            have C1 : wr.cell? ⟨g, 3, none⟩ = some (.slice (some ⟨gA, 0, none⟩) L c7) := by rw [cell_of_row wr g _ _ 51 (0, 0) G0.out]; rfl
            have KW := hide OW.out.lt
            have HLM := hide hlm
            clear hlm SG
            go_wp2_with (at_builtin; refine wpList_append_own_at _ rfl _ _ 49 rfl 0 23 i0 (.pointer none) 1 8 und49 hi0 hz0 hz1 hz2 rfl (by decide) _ L ps7 rfl (OW.out.alloc _) ⟨wr.heap.size, 0, none⟩ 1 1 [.pointer (some ⟨g41, 0, none⟩)] rfl rfl ?c1 ?c2 (by unfold maxLen; omega) (by omega) (Nat.zero_le _) ?_)
            case c2 => rfl
            intro v9 w9 ho9 hg9 _ ha9
            obtain ⟨gZ, cZ, rfl, -⟩ := own_form ho9 (by omega)
            have hx : Nds (fun q => W.heap.size ≤ q ∧ q ≠ g ∧ (Value.slice (some ⟨gA, 0, none⟩) (l.map (placed ab)).length c7).ownBlock ≠ some q) wr [.mk ob tb zb lb ab] [.pointer (some ⟨g41, 0, none⟩)] := by
              rw [Nds]
              refine ⟨_, _, rfl, Nd.mono (fun q hq => ⟨by have := hq.1; omega, by have := hq.1; omega, fun e => ?_⟩) _ _ TB.out, Nds.none⟩
              have e2 := HAZ.out q e
              have := hq.1
              omega
            have np := Nv.push (xs := [.mk ob tb zb lb ab]) (qs := [.pointer (some ⟨g41, 0, none⟩)]) (m := L + 1) NV.out hx (by rw [List.length_append, HLM.out]; rfl) ho9 hg9 (by
              rcases ha9 with c | c
              · exact Or.inl c.symm
              · exact Or.inr ((show gZ = wr.heap.size + 1 from Option.some.inj c).trans (Array.size_push ..).symm))
            have CA : w9.cell? ⟨g, 3, none⟩ = some (.slice (some ⟨gA, 0, none⟩) L c7) := by
              have e3 := np.2.1
              rw [HLM.out] at e3
              exact e3
            have FA := np.2.2
            have N10 := hide np.1.1
            have R10 := hide (R5.out.mv np.1.2 (fun j (e : W.heap.size ≤ j) => by have := R5.out.1; omega))
            have M10 := hide (M5.out.trans np.1.2 (fun j hj (e : W.heap.size ≤ j) => by omega))
            obtain ⟨w10, hw10⟩ : ∃ X, X = w9.setCell ⟨g, 3, none⟩ (.slice (some ⟨gZ, 0, none⟩) (L + 1) cZ) := ⟨_, rfl⟩
            rw [← hw10] at N10 R10 M10
            have HW10 := hide hw10
            clear hw10 np hx ho9 hg9 ha9 NV C1 G0 OW TB GB R5 M5
            go_wp2_with fail
            rw [← HW10.out]
            go_ret
            have ER := E41.out
            subst ER
            exact ⟨_, rfl, N10.out.done, R10.out, M10.out⟩
end Go.Proofs.YtmfoehaeejhlpaaGreatDoor

/-
  The reader: a program, whole.
-/
namespace Go.Proofs.YtmfoehaeejhlpaaGreatDoor
open Go.RowKit Yn
set_option maxRecDepth 100000
theorem system_all (hP : Pz) {n : Nat} (hn : n ≤ 100000) : Csy n := fun _ _ _ _ _ hR h => system_any hn (block_all hP (by omega)) hR rfl h
theorem member_all (hP : Pz) {n : Nat} (hn : n ≤ 100000) : Cmb n := fun _ _ _ _ _ hR h => member_any hn (block_all hP (by omega)) (system_all hP hn) hR rfl h
theorem prog_all (hP : Pz) {n : Nat} (hn : n ≤ 100000) {W : World} {B k : Nat} {ws : List ByteArray} {s : S} (hR : Rd W B k ws s) (hne : progS ws n [] s ≠ .out) : Calls Tryz.prog 44 #[.pointer (some ⟨k, 0, none⟩)] W (Out (isTree W) W B k ws (progS ws n [] s)) := prog_any hn (fun m hm => member_all hP (by omega)) hR rfl hne
end Go.Proofs.YtmfoehaeejhlpaaGreatDoor

/-
  The reader: read, which recovers.
-/
namespace Go.Proofs.YtmfoehaeejhlpaaGreatDoor
open Go.RowKit Yn
set_option maxRecDepth 100000
set_option maxHeartbeats 2000000 in
theorem catch_idle (p q : Addr) (w : World) :
    CallsD Tryz.prog 43 #[.pointer (some p), .pointer (some q)] .returning w fun e u' w' => e = .returned (.tuple #[]) ∧ u' = .returning ∧ w' = w := by
  refine callsD_of_wpS Tryz.func43 rfl fun c₀ cs hu => ?_
  apply wpS_seq
  apply wpS_region
  simp [wpOpsS, go_sem, recoverD, hu, Tryz.ntmps43, Exit.thenS]
  apply wpS_seq
  apply wpS_region
  simp [wpOpsS, go_sem, Exit.thenS]
  refine wpS_cond (t := false) (by simp [Act.eval, Array.replicate]) ?_
  simp only [Bool.false_eq_true, if_false]
  refine wpS_of_wp (wp_skip ?_)
  cases c₀
  simp_all [bodyPostS, results, Tryz.results43]
theorem ta_fault (g : Nat) (w : World) : (Instr.typeAssert (.iface 61 (.pointer (some ⟨g, 0, none⟩))) 20 61 false).run Tryz.prog w = .ok (.pointer (some ⟨g, 0, none⟩)) w := by kernel_rfl
set_option maxHeartbeats 2000000 in
theorem catch_panicking (p q : Addr) (a b : Value) (g : Nat) (older : List PanicEntry) (w : World) (hp : w.cell? p = some a) (hz : w.frozen? p = false) (hq : (w.setCell p (.pointer none)).cell? q = some b) (hy : (w.setCell p (.pointer none)).frozen? q = false) :
    CallsD Tryz.prog 43 #[.pointer (some p), .pointer (some q)] (.panicking ({ v := .iface 61 (.pointer (some ⟨g, 0, none⟩)), recovered := false } :: older)) w fun e u' w' =>
      e = .returned (.tuple #[]) ∧ u' = .panicking ({ v := .iface 61 (.pointer (some ⟨g, 0, none⟩)), recovered := true } :: older) ∧ w' = ((w.setCell p (.pointer none)).setCell q (.pointer (some ⟨g, 0, none⟩))).drew := by
  refine callsD_of_wpS Tryz.func43 rfl fun c₀ cs hu => ?_
  apply wpS_seq
  apply wpS_region
  simp [wpOpsS, go_sem, recoverD, hu, Tryz.ntmps43, Exit.thenS]
  apply wpS_seq
  apply wpS_region
  simp [wpOpsS, go_sem, Exit.thenS]
  refine wpS_cond (t := true) (by simp [Act.eval, Array.replicate]) ?_
  simp only [if_true]
  refine wpS_of_wp ?_
  simp only [Array.replicate_succ, Array.replicate_zero, List.push_toArray, List.append_toArray, List.nil_append, List.cons_append, List.setIfInBounds_toArray, List.set_cons_zero, List.set_cons_succ]
  have ta := ta_fault g
  go_region
  all_goals (try simp [bodyPostS, results, Tryz.results43])
end Go.Proofs.YtmfoehaeejhlpaaGreatDoor
