import Derived.Test.YtmfoehaeejhlpaaGreatDoorGaAK
/-
  The reader: the ways of statements.
-/
namespace Go.Proofs.YtmfoehaeejhlpaaGreatDoor
open Go.RowKit Yn
set_option maxRecDepth 100000
set_option maxHeartbeats 8000000 in
theorem let_any {n : Nat} (hc : Cc n) {W W1 : World} {B k g op a : Nat} {t : ByteArray} {z : Int} {l : List Tree} {ws : List ByteArray} {s : S} (hk0 : k < W.heap.size) (hM : Mv W W1 (fun j => j = k)) (hR : Rd W1 B k ws s) (hN : Np W.heap.size W1 g op t z l a) (hl : l.length ≤ 2000000) {r : R Tree} (hr : r = (name ws s).bind fun t s1 => (take cEq s1).bind fun _ s2 => (Yn.tail ws n s2).bind fun x s3 => .ok (.mk op t z (l ++ [x]) a) s3) (hne : r ≠ .out) : Calls Tryz.prog 184 #[.pointer (some ⟨k, 0, none⟩), .pointer (some ⟨g, 0, none⟩)] W1 (Out (isNode W.heap.size g) W B k ws r) := by
  obtain ⟨i0, hi0, hz0, hz1, hz2⟩ := info_parts infoN
  have H := hide hR
  have M0 := hide hM
  have N0 := hide hN
  have HNE := hide hne
  have HE := hide hr
  clear hR hM hN hne hr
  have HC := hide hc
  clear hc
  go_enter Tryz.func184, Tryz.ntmps184
  go_wp2_with fail
  refine calls_sub HE.out HNE.out M0.out (fun h => name_any H.out) (by (intro a er e w' hE hp; have hp2 := hp; obtain ⟨q, hq1, -⟩ := hp; subst hq1; subst hE; exact ⟨rfl, hp2⟩)) ?_
  intro x1 s1 v1 w1 hq hr hv hR hm hM
  have E1 := hide hr
  have R1 := hide hR
  have M1 := hide hM
  have hsz1 : W1.heap.size ≤ w1.heap.size := hm.size
  have N1 := hide (N0.out.mvk hm hk0)
  have hgl1 := N0.out.lt
  subst hv
  clear hq hr hR hm hM
  clear HE H M0 N0
  have c2 := N1.out.cells.1.2.1
  have f2 := N1.out.cells.2 1
  have ns := N1.out.setText x1
  have R2 := hide (R1.out.mv ns.2 (fun j (e : j = g) => by have := R1.out.1; have := N1.out.1; omega))
  have M2 := hide (M1.out.trans ns.2 (fun j hj (e : j = g) => by have := N1.out.1; omega))
  have N2 := hide ns.1
  obtain ⟨w2, hw⟩ : ∃ X, X = w1.setCell ⟨g, 1, none⟩ (.string x1) := ⟨_, rfl⟩
  rw [← hw] at R2 M2 N2
  have HW2 := hide hw
  clear hw ns
  clear R1 M1 N1
  go_wp2_with fail
  rw [← HW2.out]
  clear HW2 c2 f2
  refine calls_sub E1.out HNE.out M2.out (fun h => take_any R2.out cEq (by decide)) (by (intro a er e w' hE hp; have hp2 := hp; obtain ⟨q, hq1, -⟩ := hp; subst hq1; subst hE; exact ⟨rfl, hp2⟩)) ?_
  intro x3 s3 v3 w3 hq hr hv hR hm hM
  have E3 := hide hr
  have R3 := hide hR
  have M3 := hide hM
  have hsz3 : w2.heap.size ≤ w3.heap.size := hm.size
  have N3 := hide (N2.out.mvk hm hk0)
  have hgl3 := N2.out.lt
  subst hv
  unfold tokV
  clear hq hr hR hm hM
  clear E1 R2 M2 N2
  go_wp2_with fail
  refine calls_subN E3.out HNE.out (fun h => tail_any HC.out hk0 M3.out R3.out N3.out hl rfl h) (by (intro a er e w' hE hp; have hp2 := hp; obtain ⟨q, hq1, -⟩ := hp; subst hq1; subst hE; exact ⟨rfl, hp2⟩)) ?_
  intro x4 s4 v4 w4 hq hr hv hR hM
  have E4 := hide hr
  have R4 := hide hR
  have M4 := hide hM
  obtain ⟨hv, hn⟩ := hv
  subst hv
  have N4 := hide hn
  clear hq hr hR hM hn
  clear E3 R3 M3 N3
  go_wp2_with fail
  go_end0
  have ER := E4.out
  subst ER
  exact ⟨_, rfl, ⟨rfl, N4.out⟩, R4.out, M4.out⟩
theorem return_any {n : Nat} (hc : Cc n) {W W1 : World} {B k g op a : Nat} {t : ByteArray} {z : Int} {l : List Tree} {ws : List ByteArray} {s : S} (hk0 : k < W.heap.size) (hM : Mv W W1 (fun j => j = k)) (hR : Rd W1 B k ws s) (hN : Np W.heap.size W1 g op t z l a) (hl : l.length ≤ 2000000) {r : R Tree} (hr : r = (Yn.tail ws n s).bind fun x s1 => .ok (.mk op t z (l ++ [x]) a) s1) (hne : r ≠ .out) : Calls Tryz.prog 192 #[.pointer (some ⟨k, 0, none⟩), .pointer (some ⟨g, 0, none⟩)] W1 (Out (isNode W.heap.size g) W B k ws r) := by
  refine calls_subN hr hne (fun h => tail_any hc hk0 hM hR hN hl rfl h) ?_ ?_
  · intro a er e w' hE hp
    subst hE
    exact hp
  · intro x s1 v w' _ hE hv hR1 hM1
    subst hE
    exact ⟨_, rfl, hv, hR1, hM1⟩
theorem done_any {W W1 : World} {B k g op a : Nat} {t : ByteArray} {z : Int} {l : List Tree} {ws : List ByteArray} {s : S} (hk0 : k < W.heap.size) (hM : Mv W W1 (fun j => j = k)) (hR : Rd W1 B k ws s) (hN : Np W.heap.size W1 g op t z l a) (hl : l.length ≤ 2000000) {r : R Tree} (hr : r = (take cSemi s).bind fun _ s1 => .ok (.mk op t z l a) s1) (hne : r ≠ .out) : Calls Tryz.prog 191 #[.pointer (some ⟨k, 0, none⟩), .pointer (some ⟨g, 0, none⟩)] W1 (Out (isNode W.heap.size g) W B k ws r) := by
  have _ := hl
  refine calls_sub (hr.trans (end_eq _ _)) hne hM (fun h => end_any hR _) ?_ ?_
  · intro a er e w' hE hp
    subst hE
    exact hp
  · intro x s1 v w' _ hE hv hR1 hm hM1
    subst hE
    exact ⟨_, rfl, ⟨hv, hN.mvk hm hk0⟩, hR1, hM1⟩
set_option maxHeartbeats 8000000 in
theorem emit_any {n : Nat} (hc : Cc n) {W W1 : World} {B k g op a : Nat} {t : ByteArray} {z : Int} {l : List Tree} {ws : List ByteArray} {s : S} (hk0 : k < W.heap.size) (hM : Mv W W1 (fun j => j = k)) (hR : Rd W1 B k ws s) (hN : Np W.heap.size W1 g op t z l a) (hl : l.length ≤ 2000000) (hl1 : l.length ≤ 1000) {r : R Tree} (hr : r = (Yn.cond ws n s).bind fun x s1 => (take cCom s1).bind fun _ s2 => (Yn.tail ws n s2).bind fun y s3 => .ok (.mk op t z ((l ++ [x]) ++ [y]) a) s3) (hne : r ≠ .out) : Calls Tryz.prog 187 #[.pointer (some ⟨k, 0, none⟩), .pointer (some ⟨g, 0, none⟩)] W1 (Out (isNode W.heap.size g) W B k ws r) := by
  obtain ⟨i0, hi0, hz0, hz1, hz2⟩ := info_parts infoN
  have H := hide hR
  have M0 := hide hM
  have N0 := hide hN
  have HNE := hide hne
  have HE := hide hr
  clear hR hM hN hne hr
  have HC := hide hc
  clear hc
  go_enter Tryz.func187, Tryz.ntmps187
  have nd := N0.out.later (below_drew W1)
  obtain ⟨ao, c7, ps7, nv⟩ := nd.nv
  have NV1 := hide nv
  have C1 := nv.cell
  clear nd nv
  go_upto_region 0 with fail
  refine wp_region_late (J := fun i => i != 11) (S := fun Wq => Wq.cell? ⟨g, 3, none⟩ = some (.slice ao l.length c7)) (by kernel_rfl) C1 (fun hHeld => ?_)
  refine' wpAnyJ_takeW (i := 0) (v := _) rfl (by kernel_rfl) (by kernel_rfl) (by kernel_rfl) (fun _ _ _ h => h) (Or.inl ⟨by rfl, ?hyEm1⟩) ?reEm1
  case hyEm1 => (intro W hSw; (try dsimp only at hSw); go_simp; try with_reducible rfl)
  try simp only [Act.put, List.setIfInBounds_toArray]
  refine' wpAnyJ_takeW (i := 1) (v := _) rfl (by kernel_rfl) (by kernel_rfl) (by kernel_rfl) (fun _ _ _ h => h) (Or.inl ⟨by rfl, ?hyEm2⟩) ?reEm2
  case hyEm2 => (intro W hSw; (try dsimp only at hSw); go_simp; try with_reducible rfl)
  try simp only [Act.put]
  refine' wpAnyJ_takeW (i := 2) (v := _) rfl (by kernel_rfl) (by kernel_rfl) (by kernel_rfl) (fun _ _ _ h => h) (Or.inl ⟨by rfl, ?hyEm3⟩) ?reEm3
  case hyEm3 => (intro W hSw; (try dsimp only at hSw); go_simp; try with_reducible rfl)
  try simp only [Act.put]
  refine' wpAnyJ_takeW (i := 3) (v := _) rfl (by kernel_rfl) (by kernel_rfl) (by kernel_rfl) (fun _ _ _ h => h) (Or.inl ⟨by rfl, ?hyEm4⟩) ?reEm4
  case hyEm4 => (intro W hSw; (try dsimp only at hSw); go_simp; try with_reducible rfl)
  try simp only [Act.put]
  refine' wpAnyJ_take (i := 4) (v := _) rfl (by kernel_rfl) (by kernel_rfl) (by kernel_rfl) (by kernel_rfl) (fun _ _ _ h => h) (Or.inl ⟨by rfl, ?hyEm5⟩) (by assumption) ?reEm5
  case hyEm5 => (intro W hSw; (try dsimp only at hSw); go_simp; try with_reducible rfl)
  try simp only [Act.put]
  refine' wpAnyJ_takeW (i := 5) (v := _) rfl (by kernel_rfl) (by kernel_rfl) (by kernel_rfl) (fun _ _ _ h => h) (Or.inl ⟨by rfl, ?hyEm6⟩) ?reEm6
  case hyEm6 => (intro W hSw; (try dsimp only at hSw); go_simp; try with_reducible rfl)
  try simp only [Act.put]
  refine wpAnyJ_ready (rs := [6]) (by kernel_rfl) (by simp) ?_
  refine AllReadyJ.cons (o := { dst := some 10, op := Op.call { callee := Callee.value (Operand.func 201), args := #[Operand.tmp 9], argTypes := #[56] }, type := 23, pos := "statement.go:80", after := #[{ on := 5, ground := Ground.data }], guard := none }) rfl (fun K hK => ?_) AllReadyJ.nil
  go_simp
  go_at_call 201
  refine calls_sub HE.out HNE.out (M0.out.later (below_drew W1)) (fun h => HC.out _ _ _ _ _ (H.out.later (below_drew W1)) h) (by (intro a er e w' hE hp; have hp2 := hp; obtain ⟨q, hq1, -⟩ := hp; subst hq1; subst hE; exact ⟨rfl, hp2⟩)) ?_
  intro x2 s2 v2 w2 hq hr hv hR hm hM
  have E2 := hide hr
  have R2 := hide hR
  have M2 := hide hM
  have hsz2 : W1.heap.size ≤ w2.heap.size := hm.size
  obtain ⟨g2, rfl⟩ := Nd.ptr hv
  have T2 := hide (Nd.tight _ _ hv)
  have NV2 := hide (NV1.out.mvk hm hk0)
  clear hq hr hR hm hM hv
  clear HE H M0
  have C2 := NV2.out.cell
  have CB := (NV2.out.later (below_alloc w2 (.cells #[.pointer (some ⟨g2, 0, none⟩)] 23))).cell
  have hcp := NV2.out.cap
  clear hHeld
  go_simp
  refine hK.out _ _ (fun _ _ => C2) ?_
  clear hK K
  try simp only [Act.put, List.setIfInBounds_toArray, List.set_cons_zero, List.set_cons_succ]
  refine wpAnyJ_ready (rs := [7]) (by kernel_rfl) (by simp) ?_
  refine AllReadyJ.cons (o := { dst := some 11, op := Op.buildSlice 49 1 #[(0, Operand.tmp 10)], type := 49, pos := "statement.go:80", after := #[{ on := 6, ground := Ground.data }], guard := none }) rfl (fun K hK => ?_) AllReadyJ.nil
  go_simp
  refine hK.out _ _ (fun _ _ => CB) ?_
  clear hK K
  try simp only [Act.put, List.setIfInBounds_toArray, List.set_cons_zero, List.set_cons_succ]
  refine wpAnyJ_ready (rs := [8]) (by kernel_rfl) (by simp) ?_
  refine AllReadyJ.cons (o := { dst := some 12, op := Op.call { callee := Callee.builtin Builtin.append, args := #[Operand.tmp 8, Operand.tmp 11], argTypes := #[49, 49] }, type := 49, pos := "statement.go:80", after := #[{ on := 4, ground := Ground.data }, { on := 7, ground := Ground.data }, { on := 6, ground := Ground.chain }], guard := none }) rfl (fun K hK => ?_) AllReadyJ.nil
  refine step_append_lies _ rfl (.tmp 8) (.tmp 11) 49 rfl 0 23 i0 (.pointer none) 1 8 und49 hi0 hz0 hz1 hz2 rfl (by decide) (.slice ao l.length c7) l.length (ps7) (by simp [Act.eval]) (NV2.out.own.alloc _) ⟨w2.heap.size, 0, none⟩ 1 1 [.pointer (some ⟨g2, 0, none⟩)] (by simp [Act.eval]) rfl (by intro j u hj; match j, hj with | 0, hj => simp at hj; subst hj; simp [Addr.add]) (by intro u hu; simp at hu; subst hu; rfl) (by omega) (by unfold maxLen; omega) (by omega) (Nat.zero_le _) _ rfl ?_
  intro g9 c9 w9 ho9 hg9 ha9 _
  have hx : Nds (fun q => W.heap.size ≤ q ∧ q ≠ g ∧ (Value.slice ao l.length c7).ownBlock ≠ some q) w2 [x2] [.pointer (some ⟨g2, 0, none⟩)] := by
    rw [Nds]
    refine ⟨_, _, rfl, Nd.mono (fun q hq => NV1.out.old (by have : W1.heap.size ≤ q := hq.1; omega)) _ _ T2.out, ?_⟩
    exact Nds.none
  have np := Nv.push NV2.out hx (by simp) ho9 hg9 ha9
  have CA := np.2.1
  have FA := np.2.2
  have N3 := hide np.1.1
  have R3 := hide (R2.out.mv np.1.2 (fun j (e : W.heap.size ≤ j) => by have := R2.out.1; omega))
  have M3 := hide (M2.out.trans np.1.2 (fun j hj (e : W.heap.size ≤ j) => by omega))
  clear np hx ho9 hg9 ha9 CB
  refine hK.out _ _ (fun _ _ => CA) ?_
  clear hK K
  try simp only [Act.put, List.setIfInBounds_toArray, List.set_cons_zero, List.set_cons_succ]
  refine' wpAnyJ_takeW (i := 9) (v := _) rfl (by kernel_rfl) (by kernel_rfl) (by kernel_rfl) (fun _ _ _ h => h) (Or.inl ⟨by rfl, ?hyEm7⟩) ?reEm7
  case hyEm7 => (intro W hSw; (try dsimp only at hSw); go_simp; try with_reducible rfl)
  try simp only [Act.put, List.setIfInBounds_toArray]
  refine' wpAnyJ_takeW (i := 10) (v := _) rfl (by kernel_rfl) (by kernel_rfl) (by kernel_rfl) (fun _ _ _ h => h) (Or.inl ⟨by rfl, ?hyEm8⟩) ?reEm8
  case hyEm8 => (intro W hSw; (try dsimp only at hSw); go_simp; try with_reducible rfl)
  try simp only [Act.put]
  refine wpAnyJ_ready (rs := [11]) (by kernel_rfl) (by simp) ?_
  refine AllReadyJ.cons (o := { dst := none, op := Op.store 49 (Operand.tmp 14) (Operand.tmp 12), type := 0, pos := "statement.go:80", after := #[{ on := 10, ground := Ground.data }, { on := 8, ground := Ground.data }, { on := 8, ground := Ground.chain }, { on := 0, ground := Ground.phase }, { on := 1, ground := Ground.phase }, { on := 2, ground := Ground.phase }, { on := 3, ground := Ground.phase }, { on := 4, ground := Ground.phase }, { on := 5, ground := Ground.phase }, { on := 6, ground := Ground.phase }, { on := 7, ground := Ground.phase }, { on := 8, ground := Ground.phase }], guard := none }) rfl (fun K hK => ?_) AllReadyJ.nil
  go_simp
  refine hK.out _ _ (fun h => absurd h (by decide)) ?_
  clear hK K
  try simp only [Act.put, List.setIfInBounds_toArray, List.set_cons_zero, List.set_cons_succ]
  refine wpAnyJ_done (by kernel_rfl) ?_ _
  obtain ⟨w3, hw⟩ : ∃ X, X = w9.setCell ⟨g, 3, none⟩ (.slice (some ⟨g9, 0, none⟩) (l.length + 1) c9) := ⟨_, rfl⟩
  rw [← hw] at R3 M3 N3 ⊢
  clear hw CA FA
  clear R2 M2
  clear T2 C1 C2 NV1 NV2 N0
  go_wp2_with fail
  refine calls_sub E2.out HNE.out M3.out (fun h => take_any R3.out cCom (by decide)) (by (intro a er e w' hE hp; have hp2 := hp; obtain ⟨q, hq1, -⟩ := hp; subst hq1; subst hE; exact ⟨rfl, hp2⟩)) ?_
  intro x4 s4 v4 w4 hq hr hv hR hm hM
  have E4 := hide hr
  have R4 := hide hR
  have M4 := hide hM
  have hsz4 : w3.heap.size ≤ w4.heap.size := hm.size
  have N4 := hide (N3.out.mvk hm hk0)
  have hgl4 := N3.out.lt
  subst hv
  unfold tokV
  clear hq hr hR hm hM
  clear E2 R3 M3 N3
  go_wp2_with fail
  refine calls_subN E4.out HNE.out (fun h => tail_any HC.out hk0 M4.out R4.out N4.out (by rw [List.length_append]; simp; omega) rfl h) (by (intro a er e w' hE hp; have hp2 := hp; obtain ⟨q, hq1, -⟩ := hp; subst hq1; subst hE; exact ⟨rfl, hp2⟩)) ?_
  intro x5 s5 v5 w5 hq hr hv hR hM
  have E5 := hide hr
  have R5 := hide hR
  have M5 := hide hM
  obtain ⟨hv, hn⟩ := hv
  subst hv
  have N5 := hide hn
  clear hq hr hR hM hn
  clear E4 R4 M4 N4
  go_wp2_with fail
  go_end0
  have ER := E5.out
  subst ER
  exact ⟨_, rfl, ⟨rfl, N5.out⟩, R5.out, M5.out⟩
set_option maxHeartbeats 8000000 in
theorem add_any {n : Nat} (hp : Cpt n) {W W1 : World} {B k g op a : Nat} {t : ByteArray} {z : Int} {l : List Tree} {ws : List ByteArray} {s : S} (hk0 : k < W.heap.size) (hM : Mv W W1 (fun j => j = k)) (hR : Rd W1 B k ws s) (hN : Np W.heap.size W1 g op t z l a) (hl : l.length ≤ 2000000) {r : R Tree} (hr : r = (Yn.part ws n s).bind fun x s1 => (take cSemi s1).bind fun _ s2 => .ok (.mk op t z (l ++ [x]) a) s2) (hne : r ≠ .out) : Calls Tryz.prog 189 #[.pointer (some ⟨k, 0, none⟩), .pointer (some ⟨g, 0, none⟩)] W1 (Out (isNode W.heap.size g) W B k ws r) := by
  obtain ⟨i0, hi0, hz0, hz1, hz2⟩ := info_parts infoN
  have H := hide hR
  have M0 := hide hM
  have N0 := hide hN
  have HNE := hide hne
  have HE := hide hr
  clear hR hM hN hne hr
  have HP := hide hp
  clear hp
  go_enter Tryz.func189, Tryz.ntmps189
  have nd := N0.out.later (below_drew W1)
  obtain ⟨ao, c7, ps7, nv⟩ := nd.nv
  have NV1 := hide nv
  have C1 := nv.cell
  clear nd nv
  go_upto_region 0 with fail
  refine wp_region_late (J := fun i => i != 11) (S := fun Wq => Wq.cell? ⟨g, 3, none⟩ = some (.slice ao l.length c7)) (by kernel_rfl) C1 (fun hHeld => ?_)
  refine' wpAnyJ_takeW (i := 0) (v := _) rfl (by kernel_rfl) (by kernel_rfl) (by kernel_rfl) (fun _ _ _ h => h) (Or.inl ⟨by rfl, ?hyAd1⟩) ?reAd1
  case hyAd1 => (intro W hSw; (try dsimp only at hSw); go_simp; try with_reducible rfl)
  try simp only [Act.put, List.setIfInBounds_toArray]
  refine' wpAnyJ_takeW (i := 1) (v := _) rfl (by kernel_rfl) (by kernel_rfl) (by kernel_rfl) (fun _ _ _ h => h) (Or.inl ⟨by rfl, ?hyAd2⟩) ?reAd2
  case hyAd2 => (intro W hSw; (try dsimp only at hSw); go_simp; try with_reducible rfl)
  try simp only [Act.put]
  refine' wpAnyJ_takeW (i := 2) (v := _) rfl (by kernel_rfl) (by kernel_rfl) (by kernel_rfl) (fun _ _ _ h => h) (Or.inl ⟨by rfl, ?hyAd3⟩) ?reAd3
  case hyAd3 => (intro W hSw; (try dsimp only at hSw); go_simp; try with_reducible rfl)
  try simp only [Act.put]
  refine' wpAnyJ_takeW (i := 3) (v := _) rfl (by kernel_rfl) (by kernel_rfl) (by kernel_rfl) (fun _ _ _ h => h) (Or.inl ⟨by rfl, ?hyAd4⟩) ?reAd4
  case hyAd4 => (intro W hSw; (try dsimp only at hSw); go_simp; try with_reducible rfl)
  try simp only [Act.put]
  refine' wpAnyJ_take (i := 4) (v := _) rfl (by kernel_rfl) (by kernel_rfl) (by kernel_rfl) (by kernel_rfl) (fun _ _ _ h => h) (Or.inl ⟨by rfl, ?hyAd5⟩) (by assumption) ?reAd5
  case hyAd5 => (intro W hSw; (try dsimp only at hSw); go_simp; try with_reducible rfl)
  try simp only [Act.put]
  refine' wpAnyJ_takeW (i := 5) (v := _) rfl (by kernel_rfl) (by kernel_rfl) (by kernel_rfl) (fun _ _ _ h => h) (Or.inl ⟨by rfl, ?hyAd6⟩) ?reAd6
  case hyAd6 => (intro W hSw; (try dsimp only at hSw); go_simp; try with_reducible rfl)
  try simp only [Act.put]
  refine wpAnyJ_ready (rs := [6]) (by kernel_rfl) (by simp) ?_
  refine AllReadyJ.cons (o := { dst := some 10, op := Op.call { callee := Callee.value (Operand.func 203), args := #[Operand.tmp 9], argTypes := #[56] }, type := 23, pos := "statement.go:91", after := #[{ on := 5, ground := Ground.data }], guard := none }) rfl (fun K hK => ?_) AllReadyJ.nil
  go_simp
  go_at_call 203
  refine calls_sub HE.out HNE.out (M0.out.later (below_drew W1)) (fun h => HP.out _ _ _ _ _ (H.out.later (below_drew W1)) h) (by (intro a er e w' hE hp; have hp2 := hp; obtain ⟨q, hq1, -⟩ := hp; subst hq1; subst hE; exact ⟨rfl, hp2⟩)) ?_
  intro x2 s2 v2 w2 hq hr hv hR hm hM
  have E2 := hide hr
  have R2 := hide hR
  have M2 := hide hM
  have hsz2 : W1.heap.size ≤ w2.heap.size := hm.size
  obtain ⟨g2, rfl⟩ := Nd.ptr hv
  have T2 := hide (Nd.tight _ _ hv)
  have NV2 := hide (NV1.out.mvk hm hk0)
  clear hq hr hR hm hM hv
  clear HE H M0
  have C2 := NV2.out.cell
  have CB := (NV2.out.later (below_alloc w2 (.cells #[.pointer (some ⟨g2, 0, none⟩)] 23))).cell
  have hcp := NV2.out.cap
  clear hHeld
  go_simp
  refine hK.out _ _ (fun _ _ => C2) ?_
  clear hK K
  try simp only [Act.put, List.setIfInBounds_toArray, List.set_cons_zero, List.set_cons_succ]
  refine wpAnyJ_ready (rs := [7]) (by kernel_rfl) (by simp) ?_
  refine AllReadyJ.cons (o := { dst := some 11, op := Op.buildSlice 49 1 #[(0, Operand.tmp 10)], type := 49, pos := "statement.go:91", after := #[{ on := 6, ground := Ground.data }], guard := none }) rfl (fun K hK => ?_) AllReadyJ.nil
  go_simp
  refine hK.out _ _ (fun _ _ => CB) ?_
  clear hK K
  try simp only [Act.put, List.setIfInBounds_toArray, List.set_cons_zero, List.set_cons_succ]
  refine wpAnyJ_ready (rs := [8]) (by kernel_rfl) (by simp) ?_
  refine AllReadyJ.cons (o := { dst := some 12, op := Op.call { callee := Callee.builtin Builtin.append, args := #[Operand.tmp 8, Operand.tmp 11], argTypes := #[49, 49] }, type := 49, pos := "statement.go:91", after := #[{ on := 4, ground := Ground.data }, { on := 7, ground := Ground.data }, { on := 6, ground := Ground.chain }], guard := none }) rfl (fun K hK => ?_) AllReadyJ.nil
  refine step_append_lies _ rfl (.tmp 8) (.tmp 11) 49 rfl 0 23 i0 (.pointer none) 1 8 und49 hi0 hz0 hz1 hz2 rfl (by decide) (.slice ao l.length c7) l.length (ps7) (by simp [Act.eval]) (NV2.out.own.alloc _) ⟨w2.heap.size, 0, none⟩ 1 1 [.pointer (some ⟨g2, 0, none⟩)] (by simp [Act.eval]) rfl (by intro j u hj; match j, hj with | 0, hj => simp at hj; subst hj; simp [Addr.add]) (by intro u hu; simp at hu; subst hu; rfl) (by omega) (by unfold maxLen; omega) (by omega) (Nat.zero_le _) _ rfl ?_
  intro g9 c9 w9 ho9 hg9 ha9 _
  have hx : Nds (fun q => W.heap.size ≤ q ∧ q ≠ g ∧ (Value.slice ao l.length c7).ownBlock ≠ some q) w2 [x2] [.pointer (some ⟨g2, 0, none⟩)] := by
    rw [Nds]
    refine ⟨_, _, rfl, Nd.mono (fun q hq => NV1.out.old (by have : W1.heap.size ≤ q := hq.1; omega)) _ _ T2.out, ?_⟩
    exact Nds.none
  have np := Nv.push NV2.out hx (by simp) ho9 hg9 ha9
  have CA := np.2.1
  have FA := np.2.2
  have N3 := hide np.1.1
  have R3 := hide (R2.out.mv np.1.2 (fun j (e : W.heap.size ≤ j) => by have := R2.out.1; omega))
  have M3 := hide (M2.out.trans np.1.2 (fun j hj (e : W.heap.size ≤ j) => by omega))
  clear np hx ho9 hg9 ha9 CB
  refine hK.out _ _ (fun _ _ => CA) ?_
  clear hK K
  try simp only [Act.put, List.setIfInBounds_toArray, List.set_cons_zero, List.set_cons_succ]
  refine' wpAnyJ_takeW (i := 9) (v := _) rfl (by kernel_rfl) (by kernel_rfl) (by kernel_rfl) (fun _ _ _ h => h) (Or.inl ⟨by rfl, ?hyAd7⟩) ?reAd7
  case hyAd7 => (intro W hSw; (try dsimp only at hSw); go_simp; try with_reducible rfl)
  try simp only [Act.put, List.setIfInBounds_toArray]
  refine' wpAnyJ_takeW (i := 10) (v := _) rfl (by kernel_rfl) (by kernel_rfl) (by kernel_rfl) (fun _ _ _ h => h) (Or.inl ⟨by rfl, ?hyAd8⟩) ?reAd8
  case hyAd8 => (intro W hSw; (try dsimp only at hSw); go_simp; try with_reducible rfl)
  try simp only [Act.put]
  refine wpAnyJ_ready (rs := [11]) (by kernel_rfl) (by simp) ?_
  refine AllReadyJ.cons (o := { dst := none, op := Op.store 49 (Operand.tmp 14) (Operand.tmp 12), type := 0, pos := "statement.go:91", after := #[{ on := 10, ground := Ground.data }, { on := 8, ground := Ground.data }, { on := 8, ground := Ground.chain }, { on := 0, ground := Ground.phase }, { on := 1, ground := Ground.phase }, { on := 2, ground := Ground.phase }, { on := 3, ground := Ground.phase }, { on := 4, ground := Ground.phase }, { on := 5, ground := Ground.phase }, { on := 6, ground := Ground.phase }, { on := 7, ground := Ground.phase }, { on := 8, ground := Ground.phase }], guard := none }) rfl (fun K hK => ?_) AllReadyJ.nil
  go_simp
  refine hK.out _ _ (fun h => absurd h (by decide)) ?_
  clear hK K
  try simp only [Act.put, List.setIfInBounds_toArray, List.set_cons_zero, List.set_cons_succ]
  refine wpAnyJ_done (by kernel_rfl) ?_ _
  obtain ⟨w3, hw⟩ : ∃ X, X = w9.setCell ⟨g, 3, none⟩ (.slice (some ⟨g9, 0, none⟩) (l.length + 1) c9) := ⟨_, rfl⟩
  rw [← hw] at R3 M3 N3 ⊢
  clear hw CA FA
  clear R2 M2
  clear T2 C1 C2 NV1 NV2 N0
  go_wp2_with fail
  refine calls_sub (E2.out.trans (end_eq _ _)) HNE.out M3.out (fun h => end_any R3.out _) (by (intro a er e w' hE hp; have hp2 := hp; obtain ⟨q, hq1, -⟩ := hp; subst hq1; subst hE; exact ⟨rfl, hp2⟩)) ?_
  intro x4 s4 v4 w4 hq hr hv hR hm hM
  have E4 := hide hr
  have R4 := hide hR
  have M4 := hide hM
  have hsz4 : w3.heap.size ≤ w4.heap.size := hm.size
  have N4 := hide (N3.out.mvk hm hk0)
  have hgl4 := N3.out.lt
  subst hv
  clear hq hr hR hm hM
  clear E2 R3 M3 N3
  go_wp2_with fail
  go_end0
  have ER := E4.out
  subst ER
  exact ⟨_, rfl, ⟨rfl, N4.out⟩, R4.out, M4.out⟩
set_option maxHeartbeats 8000000 in
theorem remove_any  {W W1 : World} {B k g op a : Nat} {t : ByteArray} {z : Int} {l : List Tree} {ws : List ByteArray} {s : S} (hk0 : k < W.heap.size) (hM : Mv W W1 (fun j => j = k)) (hR : Rd W1 B k ws s) (hN : Np W.heap.size W1 g op t z l a) (hl : l.length ≤ 2000000) {r : R Tree} (hr : r = (name ws s).bind fun t s1 => (take cSemi s1).bind fun _ s2 => .ok (.mk op t z l a) s2) (hne : r ≠ .out) : Calls Tryz.prog 190 #[.pointer (some ⟨k, 0, none⟩), .pointer (some ⟨g, 0, none⟩)] W1 (Out (isNode W.heap.size g) W B k ws r) := by
  obtain ⟨i0, hi0, hz0, hz1, hz2⟩ := info_parts infoN
  have H := hide hR
  have M0 := hide hM
  have N0 := hide hN
  have HNE := hide hne
  have HE := hide hr
  clear hR hM hN hne hr
  have _ := hl
  go_enter Tryz.func190, Tryz.ntmps190
  go_wp2_with fail
  refine calls_sub HE.out HNE.out M0.out (fun h => name_any H.out) (by (intro a er e w' hE hp; have hp2 := hp; obtain ⟨q, hq1, -⟩ := hp; subst hq1; subst hE; exact ⟨rfl, hp2⟩)) ?_
  intro x1 s1 v1 w1 hq hr hv hR hm hM
  have E1 := hide hr
  have R1 := hide hR
  have M1 := hide hM
  have hsz1 : W1.heap.size ≤ w1.heap.size := hm.size
  have N1 := hide (N0.out.mvk hm hk0)
  have hgl1 := N0.out.lt
  subst hv
  clear hq hr hR hm hM
  clear HE H M0 N0
  have c2 := N1.out.cells.1.2.1
  have f2 := N1.out.cells.2 1
  have ns := N1.out.setText x1
  have R2 := hide (R1.out.mv ns.2 (fun j (e : j = g) => by have := R1.out.1; have := N1.out.1; omega))
  have M2 := hide (M1.out.trans ns.2 (fun j hj (e : j = g) => by have := N1.out.1; omega))
  have N2 := hide ns.1
  obtain ⟨w2, hw⟩ : ∃ X, X = w1.setCell ⟨g, 1, none⟩ (.string x1) := ⟨_, rfl⟩
  rw [← hw] at R2 M2 N2
  have HW2 := hide hw
  clear hw ns
  clear R1 M1 N1
  go_wp2_with fail
  rw [← HW2.out]
  clear HW2 c2 f2
  refine calls_sub (E1.out.trans (end_eq _ _)) HNE.out M2.out (fun h => end_any R2.out _) (by (intro a er e w' hE hp; have hp2 := hp; obtain ⟨q, hq1, -⟩ := hp; subst hq1; subst hE; exact ⟨rfl, hp2⟩)) ?_
  intro x3 s3 v3 w3 hq hr hv hR hm hM
  have E3 := hide hr
  have R3 := hide hR
  have M3 := hide hM
  have hsz3 : w2.heap.size ≤ w3.heap.size := hm.size
  have N3 := hide (N2.out.mvk hm hk0)
  have hgl3 := N2.out.lt
  subst hv
  clear hq hr hR hm hM
  clear E1 R2 M2 N2
  go_wp2_with fail
  go_end0
  have ER := E3.out
  subst ER
  exact ⟨_, rfl, ⟨rfl, N3.out⟩, R3.out, M3.out⟩
set_option maxHeartbeats 8000000 in
theorem spawn_any {n : Nat} (hn : n ≤ 1000000) (hp : ∀ m, m ≤ n → Cpt m) {W W1 : World} {B k g op a : Nat} {t : ByteArray} {z : Int} {l : List Tree} {ws : List ByteArray} {s : S} (hk0 : k < W.heap.size) (hM : Mv W W1 (fun j => j = k)) (hR : Rd W1 B k ws s) (hN : Np W.heap.size W1 g op t z l a) (hl : l.length ≤ 2000000) {r : R Tree} (hr : r = (listS (Yn.part ws) n cSemi s).bind fun l' s1 => (take cSemi s1).bind fun _ s2 => .ok (.mk op t z l' a) s2) (hne : r ≠ .out) : Calls Tryz.prog 188 #[.pointer (some ⟨k, 0, none⟩), .pointer (some ⟨g, 0, none⟩)] W1 (Out (isNode W.heap.size g) W B k ws r) := by
  obtain ⟨i0, hi0, hz0, hz1, hz2⟩ := info_parts infoN
  have H := hide hR
  have M0 := hide hM
  have N0 := hide hN
  have HNE := hide hne
  have HE := hide hr
  clear hR hM hN hne hr
  have HP := hide hp
  have _ := hl
  clear hp
  go_enter Tryz.func188, Tryz.ntmps188
  go_wp2_with fail
  refine calls_sub HE.out HNE.out M0.out (fun h => listP_any hn HP.out H.out cSemi h) (by (intro a er e w' hE hp; have hp2 := hp; obtain ⟨q, hq1, -⟩ := hp; subst hq1; subst hE; exact ⟨rfl, hp2⟩)) ?_
  intro x1 s1 v1 w1 hq hr hv hR hm hM
  have E1 := hide hr
  have R1 := hide hR
  have M1 := hide hM
  have hsz1 : W1.heap.size ≤ w1.heap.size := hm.size
  have N1 := hide (N0.out.mvk hm hk0)
  have hgl1 := N0.out.lt
  have T1 := hide hv
  clear hq hr hR hm hM hv
  clear HE H M0 N0
  obtain ⟨ps2, ho, hv, hl⟩ := T1.out
  obtain ⟨ao2, cp2, rfl⟩ := own_len ho
  obtain ⟨ao8, c8, ps8, nv⟩ := N1.out.nv
  have c2 := nv.cell
  have f2 := N1.out.cells.2 3
  clear nv
  have ns := N1.out.setList ho (fun q e => by have := hv q e; have := N1.out.1; omega) (Nds.mono (fun q hq => ⟨by have := hq.1; have := N1.out.1; omega, by have := hq.1; omega, hq.2⟩) _ _ hl)
  have R2 := hide (R1.out.mv ns.2 (fun j (e : j = g) => by have := R1.out.1; have := N1.out.1; omega))
  have M2 := hide (M1.out.trans ns.2 (fun j hj (e : j = g) => by have := N1.out.1; omega))
  have N2 := hide ns.1
  obtain ⟨w2, hw⟩ : ∃ X, X = w1.setCell ⟨g, 3, none⟩ (.slice ao2 x1.length cp2) := ⟨_, rfl⟩
  rw [← hw] at R2 M2 N2
  have HW2 := hide hw
  clear hw ns ho hv hl
  clear R1 M1 N1
  go_wp2_with fail
  rw [← HW2.out]
  clear HW2 c2 f2
  refine calls_sub (E1.out.trans (end_eq _ _)) HNE.out M2.out (fun h => end_any R2.out _) (by (intro a er e w' hE hp; have hp2 := hp; obtain ⟨q, hq1, -⟩ := hp; subst hq1; subst hE; exact ⟨rfl, hp2⟩)) ?_
  intro x3 s3 v3 w3 hq hr hv hR hm hM
  have E3 := hide hr
  have R3 := hide hR
  have M3 := hide hM
  have hsz3 : w2.heap.size ≤ w3.heap.size := hm.size
  have N3 := hide (N2.out.mvk hm hk0)
  have hgl3 := N2.out.lt
  subst hv
  clear hq hr hR hm hM
  clear E1 R2 M2 N2
  go_wp2_with fail
  go_end0
  have ER := E3.out
  subst ER
  exact ⟨_, rfl, ⟨rfl, N3.out⟩, R3.out, M3.out⟩
set_option maxHeartbeats 8000000 in
theorem set_any {n : Nat} (hc : Cc n) {W W1 : World} {B k g op a : Nat} {t : ByteArray} {z : Int} {l : List Tree} {ws : List ByteArray} {s : S} (hk0 : k < W.heap.size) (hM : Mv W W1 (fun j => j = k)) (hR : Rd W1 B k ws s) (hN : Np W.heap.size W1 g op t z l a) (hl : l.length ≤ 2000000) (hl1 : l.length ≤ 1000) {r : R Tree} (hr : r = (name ws s).bind fun t s1 => if isAt s1 cDot then (nameNode ws (nx s1)).bind fun f s2 => (take cEq s2).bind fun _ s4 => (Yn.tail ws n s4).bind fun x s5 => .ok (.mk 12 t z ((l ++ [f]) ++ [x]) a) s5 else (take cEq s1).bind fun _ s4 => (Yn.tail ws n s4).bind fun x s5 => .ok (.mk op t z (l ++ [x]) a) s5) (hne : r ≠ .out) : Calls Tryz.prog 193 #[.pointer (some ⟨k, 0, none⟩), .pointer (some ⟨g, 0, none⟩)] W1 (Out (isNode W.heap.size g) W B k ws r) := by
  obtain ⟨i0, hi0, hz0, hz1, hz2⟩ := info_parts infoN
  have H := hide hR
  have M0 := hide hM
  have N0 := hide hN
  have HNE := hide hne
  have HE := hide hr
  clear hR hM hN hne hr
  have HC := hide hc
  clear hc
  go_enter Tryz.func193, Tryz.ntmps193
  go_wp2_with fail
  refine calls_sub HE.out HNE.out M0.out (fun h => name_any H.out) (by (intro a er e w' hE hp; have hp2 := hp; obtain ⟨q, hq1, -⟩ := hp; subst hq1; subst hE; exact ⟨rfl, hp2⟩)) ?_
  intro x1 s1 v1 w1 hq hr hv hR hm hM
  have E1 := hide hr
  have R1 := hide hR
  have M1 := hide hM
  have hsz1 : W1.heap.size ≤ w1.heap.size := hm.size
  have N1 := hide (N0.out.mvk hm hk0)
  have hgl1 := N0.out.lt
  subst hv
  clear hq hr hR hm hM
  clear HE H M0 N0
  have c2 := N1.out.cells.1.2.1
  have f2 := N1.out.cells.2 1
  have ns := N1.out.setText x1
  have R2 := hide (R1.out.mv ns.2 (fun j (e : j = g) => by have := R1.out.1; have := N1.out.1; omega))
  have M2 := hide (M1.out.trans ns.2 (fun j hj (e : j = g) => by have := N1.out.1; omega))
  have N2 := hide ns.1
  obtain ⟨w2, hw⟩ : ∃ X, X = w1.setCell ⟨g, 1, none⟩ (.string x1) := ⟨_, rfl⟩
  rw [← hw] at R2 M2 N2
  have HW2 := hide hw
  clear hw ns
  clear R1 M1 N1
  go_wp2_with fail
  rw [← HW2.out]
  clear HW2 c2 f2
  have JT := hide (takeIf_any R2.out cDot (by decide))
  cases b : isAt s1 cDot with
  | false =>
    rw [b] at JT
    simp only [Bool.false_eq_true, if_false] at JT
    have he := E1.out
    rw [if_neg (by rw [b]; decide)] at he
    have E2' := hide he
    clear he b E1
    refine (JT.out).mono ?_
    rintro e w3 ⟨rfl, hR, hm⟩
    have R3 := hide hR
    have M3 := hide (M2.out.trans hm (fun _ _ e => e))
    have N3 := hide (N2.out.mvk hm hk0)
    clear hR hm
    clear R2 M2 N2
    go_wp2_with fail
    refine calls_sub E2'.out HNE.out M3.out (fun h => take_any R3.out cEq (by decide)) (by (intro a er e w' hE hp; have hp2 := hp; obtain ⟨q, hq1, -⟩ := hp; subst hq1; subst hE; exact ⟨rfl, hp2⟩)) ?_
    intro x4 s4 v4 w4 hq hr hv hR hm hM
    have E4 := hide hr
    have R4 := hide hR
    have M4 := hide hM
    have hsz4 : w3.heap.size ≤ w4.heap.size := hm.size
    have N4 := hide (N3.out.mvk hm hk0)
    have hgl4 := N3.out.lt
    subst hv
    unfold tokV
    clear hq hr hR hm hM
    clear E2' R3 M3 N3
    go_wp2_with fail
    refine calls_subN E4.out HNE.out (fun h => tail_any HC.out hk0 M4.out R4.out N4.out hl rfl h) (by (intro a er e w' hE hp; have hp2 := hp; obtain ⟨q, hq1, -⟩ := hp; subst hq1; subst hE; exact ⟨rfl, hp2⟩)) ?_
    intro x5 s5 v5 w5 hq hr hv hR hM
    have E5 := hide hr
    have R5 := hide hR
    have M5 := hide hM
    obtain ⟨hv, hn⟩ := hv
    subst hv
    have N5 := hide hn
    clear hq hr hR hM hn
    clear E4 R4 M4 N4
    go_wp2_with fail
    go_end0
    have ER := E5.out
    subst ER
    exact ⟨_, rfl, ⟨rfl, N5.out⟩, R5.out, M5.out⟩
  | true =>
    rw [b] at JT
    simp only [if_true] at JT
    have he := E1.out
    rw [if_pos b] at he
    have E2' := hide he
    clear he b E1
    refine (JT.out).mono ?_
    rintro e w3 ⟨rfl, hR, hm⟩
    have R3 := hide hR
    have M3 := hide (M2.out.trans hm (fun _ _ e => e))
    have N3 := hide (N2.out.mvk hm hk0)
    clear hR hm
    clear R2 M2 N2
    have c4 := N3.out.cells.1.1
    have f4 := N3.out.cells.2 0
    have ns : Np _ (w3.setCell ⟨g, 0, none⟩ (.int .i64 12)) _ 12 _ _ _ _ ∧ Mv _ (w3.setCell ⟨g, 0, none⟩ (.int .i64 12)) _ := N3.out.setOp 12
    have R4 := hide (R3.out.mv ns.2 (fun j (e : j = g) => by have := R3.out.1; have := N3.out.1; omega))
    have M4 := hide (M3.out.trans ns.2 (fun j hj (e : j = g) => by have := N3.out.1; omega))
    have N4 := hide ns.1
    obtain ⟨w4, hw⟩ : ∃ X, X = w3.setCell ⟨g, 0, none⟩ (.int .i64 12) := ⟨_, rfl⟩
    rw [← hw] at R4 M4 N4
    have HW4 := hide hw
    clear hw ns
    clear R3 M3 N3
    go_upto_region 3 with fail
    rw [← HW4.out]
    clear HW4 c4 f4
    have nd := N4.out.later (below_drew w4)
    obtain ⟨ao, c7, ps7, nv⟩ := nd.nv
    have NV5 := hide nv
    have C5 := nv.cell
    clear nd nv
    go_upto_region 3 with fail
    refine wp_region_late (J := fun i => i != 11) (S := fun Wq => Wq.cell? ⟨g, 3, none⟩ = some (.slice ao l.length c7)) (by kernel_rfl) C5 (fun hHeld => ?_)
    refine' wpAnyJ_takeW (i := 0) (v := _) rfl (by kernel_rfl) (by kernel_rfl) (by kernel_rfl) (fun _ _ _ h => h) (Or.inl ⟨by rfl, ?hySe1⟩) ?reSe1
    case hySe1 => (intro W hSw; (try dsimp only at hSw); go_simp; try with_reducible rfl)
    try simp only [Act.put, List.setIfInBounds_toArray]
    refine' wpAnyJ_takeW (i := 1) (v := _) rfl (by kernel_rfl) (by kernel_rfl) (by kernel_rfl) (fun _ _ _ h => h) (Or.inl ⟨by rfl, ?hySe2⟩) ?reSe2
    case hySe2 => (intro W hSw; (try dsimp only at hSw); go_simp; try with_reducible rfl)
    try simp only [Act.put]
    refine' wpAnyJ_takeW (i := 2) (v := _) rfl (by kernel_rfl) (by kernel_rfl) (by kernel_rfl) (fun _ _ _ h => h) (Or.inl ⟨by rfl, ?hySe3⟩) ?reSe3
    case hySe3 => (intro W hSw; (try dsimp only at hSw); go_simp; try with_reducible rfl)
    try simp only [Act.put]
    refine' wpAnyJ_takeW (i := 3) (v := _) rfl (by kernel_rfl) (by kernel_rfl) (by kernel_rfl) (fun _ _ _ h => h) (Or.inl ⟨by rfl, ?hySe4⟩) ?reSe4
    case hySe4 => (intro W hSw; (try dsimp only at hSw); go_simp; try with_reducible rfl)
    try simp only [Act.put]
    refine' wpAnyJ_take (i := 4) (v := _) rfl (by kernel_rfl) (by kernel_rfl) (by kernel_rfl) (by kernel_rfl) (fun _ _ _ h => h) (Or.inl ⟨by rfl, ?hySe5⟩) (by assumption) ?reSe5
    case hySe5 => (intro W hSw; (try dsimp only at hSw); go_simp; try with_reducible rfl)
    try simp only [Act.put]
    refine' wpAnyJ_takeW (i := 5) (v := _) rfl (by kernel_rfl) (by kernel_rfl) (by kernel_rfl) (fun _ _ _ h => h) (Or.inl ⟨by rfl, ?hySe6⟩) ?reSe6
    case hySe6 => (intro W hSw; (try dsimp only at hSw); go_simp; try with_reducible rfl)
    try simp only [Act.put]
    refine wpAnyJ_ready (rs := [6]) (by kernel_rfl) (by simp) ?_
    refine AllReadyJ.cons (o := { dst := some 20, op := Op.call { callee := Callee.value (Operand.func 178), args := #[Operand.tmp 19], argTypes := #[56] }, type := 23, pos := "statement.go:59", after := #[{ on := 5, ground := Ground.data }], guard := none }) rfl (fun K hK => ?_) AllReadyJ.nil
    go_simp
    go_at_call 178
    refine calls_sub E2'.out HNE.out (M4.out.later (below_drew w4)) (fun h => nameNode_any (R4.out.later (below_drew w4))) (by (intro a er e w' hE hp; have hp2 := hp; obtain ⟨q, hq1, -⟩ := hp; subst hq1; subst hE; exact ⟨rfl, hp2⟩)) ?_
    intro x6 s6 v6 w6 hq hr hv hR hm hM
    have E6 := hide hr
    have R6 := hide hR
    have M6 := hide hM
    have hsz6 : w4.heap.size ≤ w6.heap.size := hm.size
    obtain ⟨g6, rfl⟩ := Nd.ptr hv
    have T6 := hide (Nd.tight _ _ hv)
    have NV6 := hide (NV5.out.mvk hm hk0)
    clear hq hr hR hm hM hv
    clear E2' R4 M4
    have C6 := NV6.out.cell
    have CB := (NV6.out.later (below_alloc w6 (.cells #[.pointer (some ⟨g6, 0, none⟩)] 23))).cell
    have hcp := NV6.out.cap
    clear hHeld
    go_simp
    refine hK.out _ _ (fun _ _ => C6) ?_
    clear hK K
    try simp only [Act.put, List.setIfInBounds_toArray, List.set_cons_zero, List.set_cons_succ]
    refine wpAnyJ_ready (rs := [7]) (by kernel_rfl) (by simp) ?_
    refine AllReadyJ.cons (o := { dst := some 21, op := Op.buildSlice 49 1 #[(0, Operand.tmp 20)], type := 49, pos := "statement.go:59", after := #[{ on := 6, ground := Ground.data }], guard := none }) rfl (fun K hK => ?_) AllReadyJ.nil
    go_simp
    refine hK.out _ _ (fun _ _ => CB) ?_
    clear hK K
    try simp only [Act.put, List.setIfInBounds_toArray, List.set_cons_zero, List.set_cons_succ]
    refine wpAnyJ_ready (rs := [8]) (by kernel_rfl) (by simp) ?_
    refine AllReadyJ.cons (o := { dst := some 22, op := Op.call { callee := Callee.builtin Builtin.append, args := #[Operand.tmp 18, Operand.tmp 21], argTypes := #[49, 49] }, type := 49, pos := "statement.go:59", after := #[{ on := 4, ground := Ground.data }, { on := 7, ground := Ground.data }, { on := 6, ground := Ground.chain }], guard := none }) rfl (fun K hK => ?_) AllReadyJ.nil
    refine step_append_lies _ rfl (.tmp 18) (.tmp 21) 49 rfl 0 23 i0 (.pointer none) 1 8 und49 hi0 hz0 hz1 hz2 rfl (by decide) (.slice ao l.length c7) l.length (ps7) (by simp [Act.eval]) (NV6.out.own.alloc _) ⟨w6.heap.size, 0, none⟩ 1 1 [.pointer (some ⟨g6, 0, none⟩)] (by simp [Act.eval]) rfl (by intro j u hj; match j, hj with | 0, hj => simp at hj; subst hj; simp [Addr.add]) (by intro u hu; simp at hu; subst hu; rfl) (by omega) (by unfold maxLen; omega) (by omega) (Nat.zero_le _) _ rfl ?_
    intro g9 c9 w9 ho9 hg9 ha9 _
    have hx : Nds (fun q => W.heap.size ≤ q ∧ q ≠ g ∧ (Value.slice ao l.length c7).ownBlock ≠ some q) w6 [x6] [.pointer (some ⟨g6, 0, none⟩)] := by
      rw [Nds]
      refine ⟨_, _, rfl, Nd.mono (fun q hq => NV5.out.old (by have : w4.heap.size ≤ q := hq.1; omega)) _ _ T6.out, ?_⟩
      exact Nds.none
    have np := Nv.push NV6.out hx (by simp) ho9 hg9 ha9
    have CA := np.2.1
    have FA := np.2.2
    have N7 := hide np.1.1
    have R7 := hide (R6.out.mv np.1.2 (fun j (e : W.heap.size ≤ j) => by have := R6.out.1; omega))
    have M7 := hide (M6.out.trans np.1.2 (fun j hj (e : W.heap.size ≤ j) => by omega))
    clear np hx ho9 hg9 ha9 CB
    refine hK.out _ _ (fun _ _ => CA) ?_
    clear hK K
    try simp only [Act.put, List.setIfInBounds_toArray, List.set_cons_zero, List.set_cons_succ]
    refine' wpAnyJ_takeW (i := 9) (v := _) rfl (by kernel_rfl) (by kernel_rfl) (by kernel_rfl) (fun _ _ _ h => h) (Or.inl ⟨by rfl, ?hySe7⟩) ?reSe7
    case hySe7 => (intro W hSw; (try dsimp only at hSw); go_simp; try with_reducible rfl)
    try simp only [Act.put, List.setIfInBounds_toArray]
    refine' wpAnyJ_takeW (i := 10) (v := _) rfl (by kernel_rfl) (by kernel_rfl) (by kernel_rfl) (fun _ _ _ h => h) (Or.inl ⟨by rfl, ?hySe8⟩) ?reSe8
    case hySe8 => (intro W hSw; (try dsimp only at hSw); go_simp; try with_reducible rfl)
    try simp only [Act.put]
    refine wpAnyJ_ready (rs := [11]) (by kernel_rfl) (by simp) ?_
    refine AllReadyJ.cons (o := { dst := none, op := Op.store 49 (Operand.tmp 24) (Operand.tmp 22), type := 0, pos := "statement.go:59", after := #[{ on := 10, ground := Ground.data }, { on := 8, ground := Ground.data }, { on := 8, ground := Ground.chain }, { on := 0, ground := Ground.phase }, { on := 1, ground := Ground.phase }, { on := 2, ground := Ground.phase }, { on := 3, ground := Ground.phase }, { on := 4, ground := Ground.phase }, { on := 5, ground := Ground.phase }, { on := 6, ground := Ground.phase }, { on := 7, ground := Ground.phase }, { on := 8, ground := Ground.phase }], guard := none }) rfl (fun K hK => ?_) AllReadyJ.nil
    go_simp
    refine hK.out _ _ (fun h => absurd h (by decide)) ?_
    clear hK K
    try simp only [Act.put, List.setIfInBounds_toArray, List.set_cons_zero, List.set_cons_succ]
    refine wpAnyJ_done (by kernel_rfl) ?_ _
    obtain ⟨w7, hw⟩ : ∃ X, X = w9.setCell ⟨g, 3, none⟩ (.slice (some ⟨g9, 0, none⟩) (l.length + 1) c9) := ⟨_, rfl⟩
    rw [← hw] at R7 M7 N7 ⊢
    clear hw CA FA
    clear R6 M6
    clear T6 C5 C6 NV5 NV6 N4
    go_wp2_with fail
    refine calls_sub E6.out HNE.out M7.out (fun h => take_any R7.out cEq (by decide)) (by (intro a er e w' hE hp; have hp2 := hp; obtain ⟨q, hq1, -⟩ := hp; subst hq1; subst hE; exact ⟨rfl, hp2⟩)) ?_
    intro x8 s8 v8 w8 hq hr hv hR hm hM
    have E8 := hide hr
    have R8 := hide hR
    have M8 := hide hM
    have hsz8 : w7.heap.size ≤ w8.heap.size := hm.size
    have N8 := hide (N7.out.mvk hm hk0)
    have hgl8 := N7.out.lt
    subst hv
    unfold tokV
    clear hq hr hR hm hM
    clear E6 R7 M7 N7
    go_wp2_with fail
    refine calls_subN E8.out HNE.out (fun h => tail_any HC.out hk0 M8.out R8.out N8.out (by rw [List.length_append]; simp; omega) rfl h) (by (intro a er e w' hE hp; have hp2 := hp; obtain ⟨q, hq1, -⟩ := hp; subst hq1; subst hE; exact ⟨rfl, hp2⟩)) ?_
    intro x9 s9 v9 w9 hq hr hv hR hM
    have E9 := hide hr
    have R9 := hide hR
    have M9 := hide hM
    obtain ⟨hv, hn⟩ := hv
    subst hv
    have N9 := hide hn
    clear hq hr hR hM hn
    clear E8 R8 M8 N8
    go_wp2_with fail
    go_end0
    have ER := E9.out
    subst ER
    exact ⟨_, rfl, ⟨rfl, N9.out⟩, R9.out, M9.out⟩
end Go.Proofs.YtmfoehaeejhlpaaGreatDoor
