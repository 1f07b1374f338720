import Derived.Test.YtmfoehaeejhlpaaGreatDoorGaAO
import Derived.Test.YtmfoehaeejhlpaaGreatDoorGaAM
/-
  The reader: blocks.
-/
namespace Go.Proofs.YtmfoehaeejhlpaaGreatDoor
open Go.RowKit Yn
set_option maxRecDepth 100000
set_option maxHeartbeats 8000000 in
theorem block_step {n : Nat} (hn : n ≤ 1000000) (hs : ∀ m, m ≤ n → Cst m) : Cbk (n + 1) := by
  intro W B k ws s hR hne
  obtain ⟨r, hr⟩ : ∃ r, r = Yn.block ws (n + 1) s := ⟨_, rfl⟩
  rw [← hr] at hne ⊢
  rw [Yn.block] at hr
  have HS := hide hs
  obtain ⟨i0, hi0, hz0, hz1, hz2⟩ := info_parts infoN
  have hk0 := hR.lt
  have H := hide hR
  have M0 := hide (Mv.refl W (fun j => j = k))
  have HNE := hide hne
  have HE := hide hr
  clear hR hne hr hs
  go_enter Tryz.func138, Tryz.ntmps138
  go_wp2_with fail
  refine (node_any H.out 5).mono ?_
  rintro e w1 ⟨g, rfl, hg, hg1, hb⟩
  have R1 := hide (H.out.later hb)
  have M1 := hide (M0.out.later hb)
  have N1 := hide (Np.fresh (lo := W.heap.size) (by have := M0.out.size; omega) hg1)
  clear hb hg1
  clear H M0
  go_wp2_with fail
  refine calls_sub HE.out HNE.out M1.out (fun h => open_any R1.out cLb (by decide)) (by (intro a er e w' hE hp; have hp2 := hp; obtain ⟨q, hq1, -⟩ := hp; subst hq1; subst hE; exact ⟨rfl, hp2⟩)) ?_
  intro x2 s2 v2 w2 hq hr hv hR hm hM
  have E2 := hide hr
  have R2 := hide hR
  have M2 := hide hM
  have hsz2 : w1.heap.size ≤ w2.heap.size := hm.size
  have N2 := hide (N1.out.mvk hm hk0)
  have hgl2 := N1.out.lt
  have D2 := hide (open_de hq)
  subst hv
  clear hq hr hR hm hM
  clear HE R1 M1 N1
  go_wp2_with fail
  go_loopg [] n (fun G Wr => ∃ (m : Nat) (l : List Tree) (u : S), G = m ∧ m ≤ n ∧ l.length + m ≤ n ∧ Hid (r = (stmts ws m l u).bind fun l s2 => .ok (.mk 5 (bs []) 0 l (hd s).a) (leave s2)) ∧ Hid (Np W.heap.size Wr g 5 (bs []) 0 l (hd s).a) ∧ Hid (Rd Wr B k ws u) ∧ Hid (Mv W Wr (fun j => j = k)) ∧ Hid (u.de = s.de + 1))
  case atStart => exact ⟨n, [], s2, rfl, Nat.le_refl _, by simp, E2, N2, R2, M2, D2⟩
  case round =>
    clear E2 N2 R2 M2 D2
    obtain ⟨m0, l, u, hG, hmn, hlm, E9, N9, R9, M9, D9⟩ := hrel
    obtain ⟨m, rfl⟩ : ∃ m', m0 = m' + 1 := by
      cases m0 with
      | zero => exact absurd (by rw [E9.out, stmts]; rfl) HNE.out
      | succ m' => exact ⟨m', rfl⟩
    have he := E9.out
    rw [stmts] at he
    have E8 := hide he
    have JT := hide (takeIf_any R9.out cRb (by decide))
    clear he E9
    have hz9 := M9.out.size
    cases b : isAt u cRb with
    | true =>
      rw [b] at JT
      simp only [if_true] at JT
      have he := E8.out
      rw [if_pos b] at he
      have E7 := hide he
      clear he E8 b
      go_wp2_with fail
      refine (JT.out).mono ?_
      rintro e w21 ⟨rfl, hR, hm⟩
      have R21 := hide hR
      have M21 := hide (M9.out.trans hm (fun _ _ e => e))
      have N21 := hide (N9.out.mvk hm hk0)
      clear hR hm
      clear R9 M9 N9
      go_wp2_with fail
      have hde : 1 ≤ (nx u).de := by
        have := D9.out
        have : (nx u).de = u.de := rfl
        omega
      refine (leave_any R21.out hde).mono ?_
      rintro e w22 ⟨rfl, hR, hm⟩
      have R22 := hide hR
      have M22 := hide (M21.out.trans hm (fun _ _ e => e))
      have N22 := hide (N21.out.mvk hm hk0)
      clear hR hm
      clear R21 M21 N21
      go_wp2_with fail
      go_ret
      have ER := E7.out
      subst ER
      exact ⟨_, rfl, N22.out.done, R22.out, M22.out⟩
    | false =>
      rw [b] at JT
      simp only [Bool.false_eq_true, if_false] at JT
      have he := E8.out
      rw [if_neg (by rw [b]; decide), bind_assoc] at he
      have E7 := hide he
      clear he E8 b
      go_wp2_with fail
      refine (JT.out).mono ?_
      rintro e w21 ⟨rfl, hR, hm⟩
      have R21 := hide hR
      have M21 := hide (M9.out.trans hm (fun _ _ e => e))
      have N21 := hide (N9.out.mvk hm hk0)
      clear hR hm
      clear R9 M9 N9
      have hl5 : l.length ≤ 1000000 := by omega
      have nd := N21.out.later (below_drew w21)
      obtain ⟨ao, c7, ps7, nv⟩ := nd.nv
      have NV22 := hide nv
      have C22 := nv.cell
      clear nd nv
      go_upto_region 4 with fail
      refine wp_region_late (J := fun i => i != 11) (S := fun Wq => Wq.cell? ⟨g, 3, none⟩ = some (.slice ao l.length c7)) (by kernel_rfl) C22 (fun hHeld => ?_)
      refine' wpAnyJ_takeW (i := 0) (oi := { dst := some 11, op := Op.move (Operand.tmp 3), type := 23, pos := "read.go:201", after := #[], guard := none }) (v := _) rfl (by kernel_rfl) (by kernel_rfl) (by kernel_rfl) (fun _ _ _ h => h) (Or.inl ⟨by rfl, ?hyBl1⟩) ?reBl1
      case hyBl1 => (intro W hSw; (try dsimp only at hSw); go_simp; try with_reducible rfl)
      try simp only [Act.put, List.setIfInBounds_toArray, List.set_cons_zero, List.set_cons_succ]
      refine' wpAnyJ_takeW (i := 1) (oi := { dst := some 12, op := Op.move (Operand.tmp 3), type := 23, pos := "read.go:201", after := #[], guard := none }) (v := _) rfl (by kernel_rfl) (by kernel_rfl) (by kernel_rfl) (fun _ _ _ h => h) (Or.inl ⟨by rfl, ?hyBl2⟩) ?reBl2
      case hyBl2 => (intro W hSw; (try dsimp only at hSw); go_simp; try with_reducible rfl)
      try simp only [Act.put, List.setIfInBounds_toArray, List.set_cons_zero, List.set_cons_succ]
      refine' wpAnyJ_takeW (i := 2) (oi := { dst := some 13, op := Op.nilCheck (Operand.tmp 12), type := 0, pos := "read.go:201", after := #[{ on := 1, ground := Ground.data }], guard := none }) (v := _) rfl (by kernel_rfl) (by kernel_rfl) (by kernel_rfl) (fun _ _ _ h => h) (Or.inl ⟨by rfl, ?hyBl3⟩) ?reBl3
      case hyBl3 => (intro W hSw; (try dsimp only at hSw); go_simp; try with_reducible rfl)
      try simp only [Act.put, List.setIfInBounds_toArray, List.set_cons_zero, List.set_cons_succ]
      refine' wpAnyJ_takeW (i := 3) (oi := { dst := some 14, op := Op.fieldAddr 51 (Operand.tmp 13) 3, type := 0, pos := "read.go:201", after := #[{ on := 2, ground := Ground.data }], guard := none }) (v := _) rfl (by kernel_rfl) (by kernel_rfl) (by kernel_rfl) (fun _ _ _ h => h) (Or.inl ⟨by rfl, ?hyBl4⟩) ?reBl4
      case hyBl4 => (intro W hSw; (try dsimp only at hSw); go_simp; try with_reducible rfl)
      try simp only [Act.put, List.setIfInBounds_toArray, List.set_cons_zero, List.set_cons_succ]
      refine' wpAnyJ_take (i := 4) (oi := { dst := some 15, op := Op.load 49 (Operand.tmp 14), type := 49, pos := "read.go:201", after := #[{ on := 3, ground := Ground.data }], guard := none }) (v := _) rfl (by kernel_rfl) (by kernel_rfl) (by kernel_rfl) (by kernel_rfl) (fun _ _ _ h => h) (Or.inl ⟨by rfl, ?hyBl5⟩) (by assumption) ?reBl5
      case hyBl5 => (intro W hSw; (try dsimp only at hSw); go_simp; try with_reducible rfl)
      try simp only [Act.put, List.setIfInBounds_toArray, List.set_cons_zero, List.set_cons_succ]
      refine' wpAnyJ_takeW (i := 5) (oi := { dst := some 16, op := Op.move (Operand.tmp 0), type := 56, pos := "read.go:201", after := #[], guard := none }) (v := _) rfl (by kernel_rfl) (by kernel_rfl) (by kernel_rfl) (fun _ _ _ h => h) (Or.inl ⟨by rfl, ?hyBl6⟩) ?reBl6
      case hyBl6 => (intro W hSw; (try dsimp only at hSw); go_simp; try with_reducible rfl)
      try simp only [Act.put, List.setIfInBounds_toArray, List.set_cons_zero, List.set_cons_succ]
      refine wpAnyJ_ready (rs := [6]) (by kernel_rfl) (by simp) ?_
      refine AllReadyJ.cons (o := { dst := some 17, op := Op.call { callee := Callee.value (Operand.func 163), args := #[Operand.tmp 16], argTypes := #[56] }, type := 23, pos := "read.go:201", after := #[{ on := 5, ground := Ground.data }], guard := none }) rfl (fun K hK => ?_) AllReadyJ.nil
      go_simp
      go_at_call 163
      refine calls_sub E7.out HNE.out (M21.out.later (below_drew w21)) (fun h => (HS.out m (by omega)) _ _ _ _ _ (R21.out.later (below_drew w21)) h) (by (intro a er e w' hE hp; have hp2 := hp; obtain ⟨q, hq1, -⟩ := hp; subst hq1; subst hE; exact ⟨rfl, hp2⟩)) ?_
      intro x23 s23 v23 w23 hq hr hv hR hm hM
      have E23 := hide hr
      have R23 := hide hR
      have M23 := hide hM
      have hsz23 : w21.heap.size ≤ w23.heap.size := hm.size
      have D23 := hide ((stmt_de ws m).1 _ _ _ hq)
      obtain ⟨g23, rfl⟩ := Nd.ptr hv
      have T23 := hide (Nd.tight _ _ hv)
      have NV23 := hide (NV22.out.mvk hm hk0)
      clear hq hr hR hm hM hv
      clear E7 R21 M21
      have C23 := NV23.out.cell
      have CB := (NV23.out.later (below_alloc w23 (.cells #[.pointer (some ⟨g23, 0, none⟩)] 23))).cell
      have hcp := NV23.out.cap
      clear hHeld
      go_simp
      refine hK.out _ _ (fun _ _ => C23) ?_
      clear hK K
      try simp only [Act.put, List.setIfInBounds_toArray, List.set_cons_zero, List.set_cons_succ]
      refine wpAnyJ_ready (rs := [7]) (by kernel_rfl) (by simp) ?_
      refine AllReadyJ.cons (o := { dst := some 18, op := Op.buildSlice 49 1 #[(0, Operand.tmp 17)], type := 49, pos := "read.go:201", after := #[{ on := 6, ground := Ground.data }], guard := none }) rfl (fun K hK => ?_) AllReadyJ.nil
      go_simp
      refine hK.out _ _ (fun _ _ => CB) ?_
      clear hK K
      try simp only [Act.put, List.setIfInBounds_toArray, List.set_cons_zero, List.set_cons_succ]
      refine wpAnyJ_ready (rs := [8]) (by kernel_rfl) (by simp) ?_
      refine AllReadyJ.cons (o := { dst := some 19, op := Op.call { callee := Callee.builtin Builtin.append, args := #[Operand.tmp 15, Operand.tmp 18], argTypes := #[49, 49] }, type := 49, pos := "read.go:201", after := #[{ on := 4, ground := Ground.data }, { on := 7, ground := Ground.data }, { on := 6, ground := Ground.chain }], guard := none }) rfl (fun K hK => ?_) AllReadyJ.nil
      refine step_append_lies _ rfl (.tmp 15) (.tmp 18) 49 rfl 0 23 i0 (.pointer none) 1 8 und49 hi0 hz0 hz1 hz2 rfl (by decide) (.slice ao l.length c7) l.length (ps7) (by simp [Act.eval]) (NV23.out.own.alloc _) ⟨w23.heap.size, 0, none⟩ 1 1 [.pointer (some ⟨g23, 0, none⟩)] (by simp [Act.eval]) rfl (by intro j u hj; match j, hj with | 0, hj => simp at hj; subst hj; simp [Addr.add]) (by intro u hu; simp at hu; subst hu; rfl) (by omega) (by unfold maxLen; omega) (by omega) (Nat.zero_le _) _ rfl ?_
      intro g9 c9 w9 ho9 hg9 ha9 _
      have hx : Nds (fun q => W.heap.size ≤ q ∧ q ≠ g ∧ (Value.slice ao l.length c7).ownBlock ≠ some q) w23 [x23] [.pointer (some ⟨g23, 0, none⟩)] := by
        rw [Nds]
        refine ⟨_, _, rfl, Nd.mono (fun q hq => NV22.out.old (show w21.heap.size ≤ q by have : w21.heap.size ≤ q := hq.1; omega)) _ _ T23.out, ?_⟩
        exact Nds.none
      have np := Nv.push NV23.out hx (by simp) ho9 hg9 ha9
      have CA := np.2.1
      have FA := np.2.2
      have N24 := hide np.1.1
      have R24 := hide (R23.out.mv np.1.2 (fun j (e : W.heap.size ≤ j) => by have := R23.out.1; omega))
      have M24 := hide (M23.out.trans np.1.2 (fun j hj (e : W.heap.size ≤ j) => by omega))
      clear np hx ho9 hg9 ha9 CB
      refine hK.out _ _ (fun _ _ => CA) ?_
      clear hK K
      try simp only [Act.put, List.setIfInBounds_toArray, List.set_cons_zero, List.set_cons_succ]
      refine' wpAnyJ_takeW (i := 9) (oi := { dst := some 20, op := Op.nilCheck (Operand.tmp 11), type := 0, pos := "read.go:201", after := #[{ on := 0, ground := Ground.data }, { on := 0, ground := Ground.phase }, { on := 1, ground := Ground.phase }, { on := 2, ground := Ground.phase }, { on := 3, ground := Ground.phase }, { on := 4, ground := Ground.phase }, { on := 5, ground := Ground.phase }, { on := 6, ground := Ground.phase }, { on := 7, ground := Ground.phase }, { on := 8, ground := Ground.phase }], guard := none }) (v := _) rfl (by kernel_rfl) (by kernel_rfl) (by kernel_rfl) (fun _ _ _ h => h) (Or.inl ⟨by rfl, ?hyBl7⟩) ?reBl7
      case hyBl7 => (intro W hSw; (try dsimp only at hSw); go_simp; try with_reducible rfl)
      try simp only [Act.put, List.setIfInBounds_toArray, List.set_cons_zero, List.set_cons_succ]
      refine' wpAnyJ_takeW (i := 10) (oi := { dst := some 21, op := Op.fieldAddr 51 (Operand.tmp 20) 3, type := 0, pos := "read.go:201", after := #[{ on := 9, ground := Ground.data }, { on := 0, ground := Ground.phase }, { on := 1, ground := Ground.phase }, { on := 2, ground := Ground.phase }, { on := 3, ground := Ground.phase }, { on := 4, ground := Ground.phase }, { on := 5, ground := Ground.phase }, { on := 6, ground := Ground.phase }, { on := 7, ground := Ground.phase }, { on := 8, ground := Ground.phase }], guard := none }) (v := _) rfl (by kernel_rfl) (by kernel_rfl) (by kernel_rfl) (fun _ _ _ h => h) (Or.inl ⟨by rfl, ?hyBl8⟩) ?reBl8
      case hyBl8 => (intro W hSw; (try dsimp only at hSw); go_simp; try with_reducible rfl)
      try simp only [Act.put, List.setIfInBounds_toArray, List.set_cons_zero, List.set_cons_succ]
      refine wpAnyJ_ready (rs := [11]) (by kernel_rfl) (by simp) ?_
      refine AllReadyJ.cons (o := { dst := none, op := Op.store 49 (Operand.tmp 21) (Operand.tmp 19), type := 0, pos := "read.go:201", after := #[{ on := 10, ground := Ground.data }, { on := 8, ground := Ground.data }, { on := 8, ground := Ground.chain }, { on := 0, ground := Ground.phase }, { on := 1, ground := Ground.phase }, { on := 2, ground := Ground.phase }, { on := 3, ground := Ground.phase }, { on := 4, ground := Ground.phase }, { on := 5, ground := Ground.phase }, { on := 6, ground := Ground.phase }, { on := 7, ground := Ground.phase }, { on := 8, ground := Ground.phase }], guard := none }) rfl (fun K hK => ?_) AllReadyJ.nil
      go_simp
      refine hK.out _ _ (fun h => absurd h (by decide)) ?_
      clear hK K
      try simp only [Act.put, List.setIfInBounds_toArray, List.set_cons_zero, List.set_cons_succ]
      refine wpAnyJ_done (by kernel_rfl) ?_ _
      obtain ⟨w24, hw⟩ : ∃ X, X = w9.setCell ⟨g, 3, none⟩ (.slice (some ⟨g9, 0, none⟩) (l.length + 1) c9) := ⟨_, rfl⟩
      rw [← hw] at R24 M24 N24 ⊢
      clear hw CA FA
      clear R23 M23
      clear T23 C22 C23 NV22 NV23 N21
      go_wp2_with fail
      go_roundg m
      case measure => omega
      case rel => exact ⟨m, l ++ [x23], s23, rfl, by omega, by simp; omega, E23, N24, R24, M24, D23.out.trans D9.out⟩
theorem stmts_all (hP : Pz) : ∀ n, n ≤ 1000000 → ∀ m, m ≤ n → Cst m ∧ Cbk m
  | 0, _, m, hm => by
    obtain rfl : m = 0 := by omega
    exact ⟨fun W B k ws s _ h => absurd (by rw [stmt]) h, fun W B k ws s _ h => absurd (by rw [Yn.block]) h⟩
  | n + 1, hn, m, hm => by
    have ih := stmts_all hP n (by omega)
    by_cases h : m ≤ n
    · exact ih m h
    · obtain rfl : m = n + 1 := by omega
      obtain ⟨h1, h2⟩ := ih n (Nat.le_refl _)
      exact ⟨stmt_step hP (by omega) h2 h1, block_step (by omega) (fun m hm => (ih m hm).1)⟩
theorem block_all (hP : Pz) {n : Nat} (hn : n ≤ 1000000) : Cbk n := (stmts_all hP n hn n (Nat.le_refl _)).2
end Go.Proofs.YtmfoehaeejhlpaaGreatDoor

/-
  The reader: names.
-/
namespace Go.Proofs.YtmfoehaeejhlpaaGreatDoor
open Go.RowKit Yn
set_option maxRecDepth 100000
theorem needName_eq {ws : List ByteArray} {s s' : S} {x : Unit} (h : needName ws s = .ok x s') : s' = s := by
  unfold needName Yn.fail at h
  split at h
  · cases h
    rfl
  · cases h
set_option maxHeartbeats 8000000 in
theorem names_any {n : Nat} (hn : n ≤ 100000) {W : World} {B k most : Nat} {ws : List ByteArray} {s0 : S} (hR : Rd W B k ws s0) {r : R (List Tree)} (hr : r = names ws n most 0 [] s0) (hne : r ≠ .out) : Calls Tryz.prog 160 #[.pointer (some ⟨k, 0, none⟩), .int .i64 (most : Int)] W (Out (isList W) W B k ws r) := by
  obtain ⟨i0, hi0, hz0, hz1, hz2⟩ := info_parts infoN
  have hkW := hR.lt
  have HNE := hide hne
  have HE := hide hr
  obtain ⟨w0, hw0⟩ : ∃ X, X = W.alloc (.cells #[.int .i64 0] 3) := ⟨_, rfl⟩
  have b0 : Below W.heap.size W w0 := hw0 ▸ below_alloc W _
  have R0 := hide (hR.later b0)
  have M0 := hide (Mv.of_below b0 (fun j => j = k))
  have G0 : Hid (w0.heap[W.heap.size]? = some (.cells #[.int .i64 ((0 : Nat) : Int)] 3 (0, 0))) := hw0 ▸ heap_alloc_new W _
  have HW0 := hide hw0
  clear hR hr hne hw0 b0
  go_enter Tryz.func160, Tryz.ntmps160
  go_wp2_with fail
  rw [← HW0.out]
  clear HW0
  go_loopg [5, 6] n (fun G v5 v6 Wr => ∃ (m : Nat) (l : List Tree) (u : S) (ps : List Value) (g6 : Nat), G = m ∧ m ≤ n ∧ l.length + m ≤ n ∧ v6 = .pointer (some ⟨g6, 0, none⟩) ∧ W.heap.size ≤ g6 ∧ Hid (r = names ws m most l.length l u) ∧ Hid (Wr.ownsRow 0 23 1 v5 l.length ps) ∧ Hid (∀ q, v5.ownBlock = some q → W.heap.size ≤ q ∧ q ≠ g6) ∧ Hid (Nds (fun q => W.heap.size ≤ q ∧ v5.ownBlock ≠ some q ∧ q ≠ g6) Wr l ps) ∧ Hid (Wr.heap[g6]? = some (.cells #[.int .i64 (l.length : Int)] 3 (0, 0))) ∧ Hid (Rd Wr B k ws u) ∧ Hid (Mv W Wr (fun j => j = k)))
  case atStart => exact ⟨n, [], s0, [], W.heap.size, rfl, Nat.le_refl _, by simp, rfl, Nat.le_refl _, HE, World.ownsRow_nil _ _ _ _, fun q e => by simp [Value.ownBlock] at e, Nds.none, G0, R0, M0⟩
  case round =>
    clear HE G0 R0 M0
    obtain ⟨m0, l, u, ps, g6, hG, hmn, hlm, rfl, hg6, E9, O9, K9, T9, G9, R9, M9⟩ := hrel
    obtain ⟨m, rfl⟩ : ∃ m', m0 = m' + 1 := by
      cases m0 with
      | zero => exact absurd (by rw [E9.out, names]) HNE.out
      | succ m' => exact ⟨m', rfl⟩
    have he := E9.out
    rw [names] at he
    have E8 := hide he
    obtain ⟨a7, c7, rfl⟩ := own_len O9.out
    have hcap := own_cap O9.out
    have hgl := lt_of_block G9.out
    clear he E9
    go_wp2_with fail
    refine calls_sub E8.out HNE.out M9.out (fun h => needName_any R9.out) (by (intro a er e w' hE hp; have hp2 := hp; obtain ⟨q, hq1, -⟩ := hp; subst hq1; subst hE; exact ⟨rfl, hp2⟩)) ?_
    intro x1 s1 v1 w1 hq hr hv hR hm hM
    obtain rfl := needName_eq hq
    have E1 := hide hr
    have R1 := hide hR
    have M1 := hide hM
    have O1 := hide (hm.own O9.out (fun q e (e2 : q = k) => by have := (K9.out q e).1; omega))
    have T1 := hide (Nds.mv hm (fun q hq (e : q = k) => by have := hq.1; omega) _ _ T9.out)
    have G1 := hide (hm.at G9.out (fun (e : g6 = k) => by omega))
    subst hv
    clear hq hr hR hm hM E8 R9 M9 O9 T9 G9
    go_wp2_with fail
    have JC := hide (count_any R1.out ⟨g6, 0, none⟩ l.length most (by rw [cell_of_row w1 g6 _ _ 3 (0, 0) G1.out]; rfl) (frozen_of_row w1 g6 0 _ 3 G1.out) (by omega) rfl)
    by_cases hsm : l.length = most
    · simp only [if_pos hsm] at JC
      have ER : r = Yn.fail s1 102 := by rw [E1.out, if_pos hsm]
      refine JC.out.mono ?_
      rintro e w2 hp
      have hp2 := Pn.from hp M1.out
      obtain ⟨q, rfl, -⟩ := hp
      subst ER
      exact ⟨rfl, hp2⟩
    · simp only [if_neg hsm] at JC
      have E2 : Hid (r = (nameNode ws s1).bind fun x s => if isAt s cCom then names ws m most (l.length + 1) (l ++ [x]) (nx s) else .ok (l ++ [x]) s) := by
        unfold Hid
        rw [E1.out, if_neg hsm]
      refine JC.out.mono ?_
      rintro e _ ⟨rfl, rfl⟩
      have hm2 : Mv w1 (w1.setCell ⟨g6, 0, none⟩ (.int .i64 ((l.length + 1 : Nat) : Int))) (fun q => q = g6) := (Mv.refl w1 (fun q => q = g6)).set (g := g6) rfl _ _
      have G2 := hide (heap_setCell_same w1 g6 0 _ 3 (.int .i64 ((l.length + 1 : Nat) : Int)) G1.out)
      have R2 := hide (R1.out.mv hm2 (fun j (e : j = g6) => by have := R1.out.1; omega))
      have M2 := hide (M1.out.trans hm2 (fun j hj (e : j = g6) => by omega))
      have O2 := hide (hm2.own O1.out (fun q e (e2 : q = g6) => (K9.out q e).2 e2))
      have T2 := hide (Nds.mv hm2 (fun q hq (e : q = g6) => hq.2.2 e) _ _ T1.out)
      obtain ⟨w2, hw2⟩ : ∃ X, X = w1.setCell ⟨g6, 0, none⟩ (.int .i64 ((l.length + 1 : Nat) : Int)) := ⟨_, rfl⟩
      rw [← hw2] at G2 R2 M2 O2 T2 ⊢
      have hz2' := M2.out.size
      clear hw2 hm2 G1 R1 M1 O1 T1 E1 JC
      go_wp2_with fail
      refine calls_sub E2.out HNE.out M2.out (fun h => nameNode_any R2.out) (by (intro a er e w' hE hp; have hp2 := hp; obtain ⟨q, hq1, -⟩ := hp; subst hq1; subst hE; exact ⟨rfl, hp2⟩)) ?_
      intro x5 s5 v5 w5 hq hr hv hR hm5 hM
      obtain ⟨g5, rfl⟩ := Nd.ptr hv
      have E5 := hide hr
      have R5 := hide hR
      have M5 := hide hM
      have O5 := hide (hm5.own O2.out (fun q e (e2 : q = k) => by have := (K9.out q e).1; omega))
      have OL := hide O2.out.lt
      have T5 := hide (Nds.mv hm5 (fun q hq (e : q = k) => by have := hq.1.1; omega) _ _ (Nds.tight _ _ T2.out))
      have Z5 := hide (Nd.tight _ _ hv)
      have G5 := hide (hm5.at G2.out (fun (e : g6 = k) => by omega))
      have hz5 := hm5.size
      have hg6l := lt_of_block G2.out
      clear hq hr hR hm5 hM hv E2 R2 M2 O2 T2 G2
      go_wp2_with (at_builtin; refine wpList_append_own_at _ rfl _ _ 49 rfl 0 23 i0 (.pointer none) 1 8 und49 hi0 hz0 hz1 hz2 rfl (by decide) _ l.length ps rfl (O5.out.alloc _) ⟨w5.heap.size, 0, none⟩ 1 1 [.pointer (some ⟨g5, 0, none⟩)] rfl rfl ?c1 ?c2 (by unfold maxLen; omega) (by omega) (Nat.zero_le _) ?_)
      case c1 =>
        intro j u hj
        match j, hj with
        | 0, hj => simp at hj; subst hj; simp [Addr.add]
      case c2 =>
        intro u hu
        simp at hu
        subst hu
        rfl
      intro v9 w9 ho9 hg9 _ ha9
      have b6 := below_alloc w5 (.cells #[.pointer (some ⟨g5, 0, none⟩)] 23)
      have hm9 : Mv w5 w9 (fun q => (Value.slice a7 l.length c7).ownBlock = some q) := ((Mv.refl w5 (fun q => (Value.slice a7 l.length c7).ownBlock = some q)).later b6).grown hg9 (fun q _ e => e)
      have hv9 : ∀ q, v9.ownBlock = some q → (Value.slice a7 l.length c7).ownBlock = some q ∨ q = w5.heap.size + 1 := fun q e => by
        rcases ha9 with c | c
        · rw [c] at e
          exact .inl e
        · rw [c] at e
          have := Option.some.inj e
          right
          exact this.symm
      have O9 : Hid (w9.ownsRow 0 23 1 v9 (l ++ [x5]).length (ps ++ [.pointer (some ⟨g5, 0, none⟩)])) := by
        unfold Hid
        rw [List.length_append]
        exact ho9
      have K9' : Hid (∀ q, v9.ownBlock = some q → W.heap.size ≤ q) := fun q e => by
        rcases hv9 q e with c | c
        · exact (K9.out q c).1
        · have := M5.out.size
          omega
      have T9 : Hid (Nds (fun q => W.heap.size ≤ q ∧ v9.ownBlock ≠ some q) w9 (l ++ [x5]) (ps ++ [.pointer (some ⟨g5, 0, none⟩)])) := by
        refine Nds.snoc (Nds.mono (fun q hq => ⟨hq.1.1, fun e => ?_⟩) _ _ (Nds.mv hm9 (fun q hq e => hq.1.2.1 e) _ _ T5.out)) (Nd.mono (fun q hq => ⟨by have : w2.heap.size ≤ q := hq.1; omega, fun e => ?_⟩) _ _ (Nd.mv hm9 (fun q hq e => by have := (OL.out q e).2; have : w2.heap.size ≤ q := hq.1; omega) _ _ Z5.out))
        · rcases hv9 q e with c | c
          · exact hq.1.2.1 c
          · have := hq.2
            omega
        · rcases hv9 q e with c | c
          · have := (OL.out q c).2
            have : w2.heap.size ≤ q := hq.1
            omega
          · have := hq.2
            omega
      have R9 := hide (R5.out.mv hm9 (fun q e => by
        have h1 := (K9.out q e).1
        have := R5.out.1
        omega))
      have M9 : Hid (Mv W w9 (fun j => j = k)) := M5.out.trans hm9 (fun q hq e => by have := (K9.out q e).1; omega)
      have G9 := hide (hm9.at G5.out (fun e => (K9.out g6 e).2 rfl))
      have JT := hide (takeIf_any R9.out cCom (by decide))
      obtain ⟨a9, c9, rfl⟩ := own_len O9.out
      have hz9 := M9.out.size
      clear ho9 hg9 ha9 hm9 hv9 b6 T5 Z5 O5 G5 R5 M5 OL K9
      go_wp2_with fail
      cases b : isAt s5 cCom with
      | false =>
        rw [b] at JT
        simp only [Bool.false_eq_true, if_false] at JT
        have ER : r = .ok (l ++ [x5]) s5 := by rw [E5.out, if_neg (by rw [b]; decide)]
        refine JT.out.mono ?_
        rintro e w10 ⟨rfl, hR, hm⟩
        have R10 := hide hR
        have M10 := hide (M9.out.trans hm (fun _ _ e => e))
        have L10 : Hid (isList W (l ++ [x5]) (.slice a9 (l ++ [x5]).length c9) w10) := isList.mv ⟨_, O9.out, K9'.out, T9.out⟩ hm hkW
        have e1 : (l ++ [x5]).length = l.length + 1 := by rw [List.length_append]; rfl
        rw [e1] at L10
        clear e1
        clear hR hm JT b
        go_wp2_with fail
        go_ret
        subst ER
        exact ⟨_, rfl, L10.out, R10.out, M10.out⟩
      | true =>
        rw [b] at JT
        simp only [if_true] at JT
        have E6 : Hid (r = names ws m most (l ++ [x5]).length (l ++ [x5]) (nx s5)) := by
          unfold Hid
          rw [E5.out, if_pos b, List.length_append]
          rfl
        refine JT.out.mono ?_
        rintro e w10 ⟨rfl, hR, hm⟩
        have R10 := hide hR
        have M10 := hide (M9.out.trans hm (fun _ _ e => e))
        have O10 := hide (hm.own O9.out (fun q e (e2 : q = k) => by have := K9'.out q e; omega))
        have T10 := hide (Nds.mv hm (fun q hq (e : q = k) => by have := hq.1; omega) _ _ T9.out)
        have G10 := hide (hm.at G9.out (fun (e : g6 = k) => by omega))
        have c10 : w10.cell? ⟨g6, 0, none⟩ = some (.int .i64 ((l.length : Int) + 1)) := by rw [cell_of_row w10 g6 _ _ 3 (0, 0) G10.out]; rfl
        obtain ⟨w11, hw11⟩ : ∃ X, X = w10.alloc (.cells #[.int .i64 ((l.length : Int) + 1)] 3) := ⟨_, rfl⟩
        have b11 : Below w10.heap.size w10 w11 := hw11 ▸ below_alloc w10 _
        have G11 : Hid (w11.heap[w10.heap.size]? = some (.cells #[.int .i64 ((l ++ [x5]).length : Int)] 3 (0, 0))) := by
          rw [List.length_append]
          exact hw11 ▸ heap_alloc_new w10 _
        have R11 := hide (R10.out.later b11)
        have M11 := hide (M10.out.later b11)
        have O11 := hide (own_later O10.out b11)
        have K11 : Hid (∀ q, (Value.slice a9 (l ++ [x5]).length c9).ownBlock = some q → W.heap.size ≤ q ∧ q ≠ w10.heap.size) := fun q e => ⟨K9'.out q e, by have := (O10.out.lt q e).2; omega⟩
        have T11 : Hid (Nds (fun q => W.heap.size ≤ q ∧ (Value.slice a9 (l ++ [x5]).length c9).ownBlock ≠ some q ∧ q ≠ w10.heap.size) w11 (l ++ [x5]) (ps ++ [.pointer (some ⟨g5, 0, none⟩)])) := Nds.mv (Mv.of_below b11 (fun _ => False)) (fun _ _ e => e) _ _ (Nds.mono (fun q hq => ⟨hq.1.1, hq.1.2, by have := hq.2; omega⟩) _ _ (Nds.tight _ _ T10.out))
        have HW11 := hide hw11
        have hz10 := M10.out.size
        clear hR hm JT b R10 M10 O10 T10 G10 E5 O9 T9 G9 R9 M9 b11 hw11
        go_wp2_with fail
        rw [← HW11.out]
        go_roundg m
        case measure => omega
        case rel =>
          have e1 : l.length + 1 = (l ++ [x5]).length := by rw [List.length_append]; rfl
          rw [e1]
          exact ⟨m, l ++ [x5], nx s5, _, _, rfl, by omega, by simp; omega, rfl, hz10, E6, O11, K11, T11, G11, R11, M11⟩
end Go.Proofs.YtmfoehaeejhlpaaGreatDoor

/-
  The grammar: members of a program.
-/
namespace Go.Proofs.YtmfoehaeejhlpaaGreatDoor.Yn
set_option maxRecDepth 100000
variable (ws : List ByteArray)
def clauseS (n : Nat) (word : ByteArray) (s : S) : R Tree := if isAt s word then (names ws n 9223372036854775807 0 [] (nx s)).bind fun l s1 => .ok (.mk 3 word 0 l (hd s).a) s1 else .ok (.mk 3 word 0 [] 0) s
def paramS (n : Nat) (s : S) : R Tree := (take cOpen s).bind fun _ s1 => if isAt s1 cClose then (take cClose s1).bind fun _ s3 => .ok (.mk 3 wFunc 0 [] (hd s).a) s3 else (names ws n 4 0 [] s1).bind fun l s2 => (take cClose s2).bind fun _ s3 => .ok (.mk 3 wFunc 0 l (hd s).a) s3
def upF (s : S) : S := { s with fu := s.fu + 1 }
def upY (s : S) : S := { s with sy := s.sy + 1 }
def funcS (n : Nat) (s : S) : R Tree := if isAt s wFunc then (if s.fu = 16 then fail s 102 else (take wFunc (upF s)).bind fun _ s1 => (name ws s1).bind fun t s2 => (paramS ws n s2).bind fun p s3 => (block ws n s3).bind fun b s4 => .ok (.mk 4 t 0 ([] ++ [p, b]) (hd s).a) s4) else fail s 100
def clauseWords : List ByteArray := [bs [119, 105, 116, 104], bs [119, 105, 116, 104, 111, 117, 116], bs [114, 101, 97, 100, 115], bs [119, 114, 105, 116, 101, 115]]
def clausesS (n : Nat) : List ByteArray → List Tree → S → R (List Tree)
  | [], l, s => .ok l s
  | w :: r, l, s => (clauseS ws n w s).bind fun x s1 => clausesS n r (l ++ [x]) s1
/-- An empty clause stands at the block. -/
def placed (a : Nat) : Tree → Tree
  | .mk op t z l b => .mk op t z l (if l.isEmpty then a else b)
def Tree.at : Tree → Nat
  | .mk _ _ _ _ a => a
def systemS (n : Nat) (s : S) : R Tree := if s.sy = 16 then fail s 102 else (take wSystem (upY s)).bind fun _ s1 => (name ws s1).bind fun t s2 => (clausesS ws n clauseWords [] s2).bind fun l s3 => (block ws n s3).bind fun b s4 => .ok (.mk 2 t 0 (l.map (placed b.at) ++ [b]) (hd s).a) s4
def memberS (n : Nat) (s : S) : R Tree := if isAt s wSystem then systemS ws n s else funcS ws n s
def progS : Nat → List Tree → S → R Tree
  | 0, _, _ => .out
  | n + 1, l, s => if (hd s).k = 0 then .ok (.mk 1 (bs []) 0 l 0) s else (memberS ws n s).bind fun x s1 => progS n (l ++ [x]) s1
end Go.Proofs.YtmfoehaeejhlpaaGreatDoor.Yn
