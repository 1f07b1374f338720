import Derived.Test.YtmfoehaeejhlpaaGreatDoorGaAM
/-
  The reader: loops, and branches.
-/
namespace Go.Proofs.YtmfoehaeejhlpaaGreatDoor
open Go.RowKit Yn
set_option maxRecDepth 100000
def Cst (n : Nat) : Prop := ∀ (W : World) (B k : Nat) (ws : List ByteArray) (s : S), Rd W B k ws s → stmt ws n s ≠ .out → Calls Tryz.prog 163 #[.pointer (some ⟨k, 0, none⟩)] W (Out (isTree W) W B k ws (stmt ws n s))
def Cbk (n : Nat) : Prop := ∀ (W : World) (B k : Nat) (ws : List ByteArray) (s : S), Rd W B k ws s → Yn.block ws n s ≠ .out → Calls Tryz.prog 138 #[.pointer (some ⟨k, 0, none⟩)] W (Out (isTree W) W B k ws (Yn.block ws n s))
def loopS (ws : List ByteArray) (n : Nat) (s : S) : R (Tree × Tree) := (Yn.cond ws n s).bind fun c s1 => (Yn.block ws n s1).bind fun b s2 => .ok (c, b) s2
theorem loop_eq {β : Type} (ws : List ByteArray) (n : Nat) (s : S) (f : Tree → Tree → S → R β) : ((Yn.cond ws n s).bind fun c s1 => (Yn.block ws n s1).bind fun b s2 => f c b s2) = (loopS ws n s).bind fun p s2 => f p.1 p.2 s2 := by
  unfold loopS
  rw [bind_assoc]
  congr 1
  funext c s1
  rw [bind_assoc]
  rfl
def isLoop (lo g op : Nat) (t : ByteArray) (z : Int) (l : List Tree) (a : Nat) : Tree × Tree → Value → World → Prop := fun p v w => v = .tuple #[] ∧ Np lo w g op t z (l ++ [p.1, p.2]) a
set_option maxHeartbeats 8000000 in
theorem loop_any {n : Nat} (hc : Cc n) (hb : Cbk n) {W W1 : World} {B k g op a : Nat} {t : ByteArray} {z : Int} {l : List Tree} {ws : List ByteArray} {s : S} (hk0 : k < W.heap.size) (hM : Mv W W1 (fun j => j = k)) (hR : Rd W1 B k ws s) (hN : Np W.heap.size W1 g op t z l a) (hl : l.length ≤ 2000000) {r : R (Tree × Tree)} (hr : r = loopS ws n s) (hne : r ≠ .out) : Calls Tryz.prog 186 #[.pointer (some ⟨k, 0, none⟩), .pointer (some ⟨g, 0, none⟩)] W1 (Out (isLoop W.heap.size g op t z l a) W B k ws r) := by
  obtain ⟨i0, hi0, hz0, hz1, hz2⟩ := info_parts infoN
  have H := hide hR
  have M0 := hide hM
  have hszM := hM.size
  have N0 := hide hN
  have HNE := hide hne
  have HE := hide hr
  clear hR hM hN hne hr
  have HC := hide hc
  have HB := hide hb
  clear hc hb
  unfold loopS at HE
  go_enter Tryz.func186, Tryz.ntmps186
  have nd := N0.out.later (below_drew W1)
  obtain ⟨ao, c7, ps7, nv⟩ := nd.nv
  have NV1 := hide nv
  have C1 := nv.cell
  clear nd nv
  go_upto_region 0 with fail
  refine wp_region_late (J := fun i => i != 13) (S := fun Wq => Wq.cell? ⟨g, 3, none⟩ = some (.slice ao l.length c7)) (by kernel_rfl) C1 (fun hHeld => ?_)
  refine' wpAnyJ_takeW (i := 0) (v := _) rfl (by kernel_rfl) (by kernel_rfl) (by kernel_rfl) (fun _ _ _ h => h) (Or.inl ⟨by rfl, ?hyLo1⟩) ?reLo1
  case hyLo1 => (intro W hSw; (try dsimp only at hSw); go_simp; try with_reducible rfl)
  try simp only [Act.put, List.setIfInBounds_toArray]
  refine' wpAnyJ_takeW (i := 1) (v := _) rfl (by kernel_rfl) (by kernel_rfl) (by kernel_rfl) (fun _ _ _ h => h) (Or.inl ⟨by rfl, ?hyLo2⟩) ?reLo2
  case hyLo2 => (intro W hSw; (try dsimp only at hSw); go_simp; try with_reducible rfl)
  try simp only [Act.put]
  refine' wpAnyJ_takeW (i := 2) (v := _) rfl (by kernel_rfl) (by kernel_rfl) (by kernel_rfl) (fun _ _ _ h => h) (Or.inl ⟨by rfl, ?hyLo3⟩) ?reLo3
  case hyLo3 => (intro W hSw; (try dsimp only at hSw); go_simp; try with_reducible rfl)
  try simp only [Act.put]
  refine' wpAnyJ_takeW (i := 3) (v := _) rfl (by kernel_rfl) (by kernel_rfl) (by kernel_rfl) (fun _ _ _ h => h) (Or.inl ⟨by rfl, ?hyLo4⟩) ?reLo4
  case hyLo4 => (intro W hSw; (try dsimp only at hSw); go_simp; try with_reducible rfl)
  try simp only [Act.put]
  refine' wpAnyJ_take (i := 4) (v := _) rfl (by kernel_rfl) (by kernel_rfl) (by kernel_rfl) (by kernel_rfl) (fun _ _ _ h => h) (Or.inl ⟨by rfl, ?hyLo5⟩) (by assumption) ?reLo5
  case hyLo5 => (intro W hSw; (try dsimp only at hSw); go_simp; try with_reducible rfl)
  try simp only [Act.put]
  refine' wpAnyJ_takeW (i := 5) (v := _) rfl (by kernel_rfl) (by kernel_rfl) (by kernel_rfl) (fun _ _ _ h => h) (Or.inl ⟨by rfl, ?hyLo6⟩) ?reLo6
  case hyLo6 => (intro W hSw; (try dsimp only at hSw); go_simp; try with_reducible rfl)
  try simp only [Act.put]
  refine' wpAnyJ_takeW (i := 7) (v := _) rfl (by kernel_rfl) (by kernel_rfl) (by kernel_rfl) (fun _ _ _ h => h) (Or.inl ⟨by rfl, ?hyLo7⟩) ?reLo7
  case hyLo7 => (intro W hSw; (try dsimp only at hSw); go_simp; try with_reducible rfl)
  try simp only [Act.put]
  refine wpAnyJ_ready (rs := [6]) (by kernel_rfl) (by simp) ?_
  refine AllReadyJ.cons (o := { dst := some 10, op := Op.call { callee := Callee.value (Operand.func 201), args := #[Operand.tmp 9], argTypes := #[56] }, type := 23, pos := "statement.go:77", after := #[{ on := 5, ground := Ground.data }], guard := none }) rfl (fun K hK => ?_) AllReadyJ.nil
  go_simp
  go_at_call 201
  refine calls_sub HE.out HNE.out (M0.out.later (below_drew W1)) (fun h => HC.out _ _ _ _ _ (H.out.later (below_drew W1)) h) (by (intro a er e w' hE hp; have hp2 := hp; obtain ⟨q, hq1, -⟩ := hp; subst hq1; subst hE; exact ⟨rfl, hp2⟩)) ?_
  intro x2 s2 v2 w2 hq hr hv hR hm hM
  have E2 := hide hr
  have R2 := hide hR
  have M2 := hide hM
  have hsz2 : W1.heap.size ≤ w2.heap.size := hm.size
  obtain ⟨g2, rfl⟩ := Nd.ptr hv
  have T2 := hide (Nd.tight _ _ hv)
  have NV2 := hide (NV1.out.mvk hm hk0)
  clear hq hr hR hm hM hv
  clear HE H M0
  have C2 := NV2.out.cell
  go_simp
  refine hK.out _ _ (fun _ _ => C2) ?_
  clear hK K
  try simp only [Act.put, List.setIfInBounds_toArray, List.set_cons_zero, List.set_cons_succ]
  refine wpAnyJ_ready (rs := [8]) (by kernel_rfl) (by simp) ?_
  refine AllReadyJ.cons (o := { dst := some 12, op := Op.call { callee := Callee.value (Operand.func 138), args := #[Operand.tmp 11], argTypes := #[56] }, type := 23, pos := "statement.go:77", after := #[{ on := 7, ground := Ground.data }, { on := 6, ground := Ground.chain }], guard := none }) rfl (fun K hK => ?_) AllReadyJ.nil
  go_simp
  go_at_call 138
  refine calls_sub E2.out HNE.out M2.out (fun h => HB.out _ _ _ _ _ R2.out h) (by (intro a er e w' hE hp; have hp2 := hp; obtain ⟨q, hq1, -⟩ := hp; subst hq1; subst hE; exact ⟨rfl, hp2⟩)) ?_
  intro x3 s3 v3 w3 hq hr hv hR hm hM
  have E3 := hide hr
  have R3 := hide hR
  have M3 := hide hM
  have hsz3 : w2.heap.size ≤ w3.heap.size := hm.size
  have T2q3 := hide (Nd.mv hm (fun q hq (e : q = k) => by have : W1.heap.size ≤ q := hq.1; omega) _ _ T2.out)
  clear T2
  obtain ⟨g3, rfl⟩ := Nd.ptr hv
  have T3 := hide (Nd.tight _ _ hv)
  have NV3 := hide (NV2.out.mvk hm hk0)
  clear hq hr hR hm hM hv
  clear E2 R2 M2
  have C3 := NV3.out.cell
  have CB := (NV3.out.later (below_alloc w3 (.cells #[.pointer (some ⟨g2, 0, none⟩), .pointer (some ⟨g3, 0, none⟩)] 23))).cell
  have hcp := NV3.out.cap
  clear hHeld
  go_simp
  refine hK.out _ _ (fun _ _ => C3) ?_
  clear hK K
  try simp only [Act.put, List.setIfInBounds_toArray, List.set_cons_zero, List.set_cons_succ]
  refine wpAnyJ_ready (rs := [9]) (by kernel_rfl) (by simp) ?_
  refine AllReadyJ.cons (o := { dst := some 13, op := Op.buildSlice 49 2 #[(0, Operand.tmp 10), (1, Operand.tmp 12)], type := 49, pos := "statement.go:77", after := #[{ on := 6, ground := Ground.data }, { on := 8, ground := Ground.data }], guard := none }) rfl (fun K hK => ?_) AllReadyJ.nil
  go_simp
  refine hK.out _ _ (fun _ _ => CB) ?_
  clear hK K
  try simp only [Act.put, List.setIfInBounds_toArray, List.set_cons_zero, List.set_cons_succ]
  refine wpAnyJ_ready (rs := [10]) (by kernel_rfl) (by simp) ?_
  refine AllReadyJ.cons (o := { dst := some 14, op := Op.call { callee := Callee.builtin Builtin.append, args := #[Operand.tmp 8, Operand.tmp 13], argTypes := #[49, 49] }, type := 49, pos := "statement.go:77", after := #[{ on := 4, ground := Ground.data }, { on := 9, ground := Ground.data }, { on := 8, ground := Ground.chain }], guard := none }) rfl (fun K hK => ?_) AllReadyJ.nil
  refine step_append_lies _ rfl (.tmp 8) (.tmp 13) 49 rfl 0 23 i0 (.pointer none) 1 8 und49 hi0 hz0 hz1 hz2 rfl (by decide) (.slice ao l.length c7) l.length (ps7) (by simp [Act.eval]) (NV3.out.own.alloc _) ⟨w3.heap.size, 0, none⟩ 2 2 [.pointer (some ⟨g2, 0, none⟩), .pointer (some ⟨g3, 0, none⟩)] (by simp [Act.eval]) rfl (by intro j u hj; match j, hj with | 0, hj => simp at hj; subst hj; simp [Addr.add] | 1, hj => simp at hj; subst hj; simp [Addr.add]) (by intro u hu; simp at hu; rcases hu with rfl | rfl <;> rfl) (by omega) (by unfold maxLen; omega) (by omega) (Nat.zero_le _) _ rfl ?_
  intro g9 c9 w9 ho9 hg9 ha9 _
  have hx : Nds (fun q => W.heap.size ≤ q ∧ q ≠ g ∧ (Value.slice ao l.length c7).ownBlock ≠ some q) w3 [x2, x3] [.pointer (some ⟨g2, 0, none⟩), .pointer (some ⟨g3, 0, none⟩)] := by
    rw [Nds]
    refine ⟨_, _, rfl, Nd.mono (fun q hq => NV1.out.old (show W1.heap.size ≤ q by have : W1.heap.size ≤ q := hq.1; omega)) _ _ T2q3.out, ?_⟩
    rw [Nds]
    refine ⟨_, _, rfl, Nd.mono (fun q hq => NV1.out.old (show W1.heap.size ≤ q by have : w2.heap.size ≤ q := hq.1; omega)) _ _ T3.out, ?_⟩
    exact Nds.none
  have np := Nv.push NV3.out hx (by simp) ho9 hg9 ha9
  have CA := np.2.1
  have FA := np.2.2
  have N4 := hide np.1.1
  have R4 := hide (R3.out.mv np.1.2 (fun j (e : W.heap.size ≤ j) => by have := R3.out.1; omega))
  have M4 := hide (M3.out.trans np.1.2 (fun j hj (e : W.heap.size ≤ j) => by omega))
  clear np hx ho9 hg9 ha9 CB
  refine hK.out _ _ (fun _ _ => CA) ?_
  clear hK K
  try simp only [Act.put, List.setIfInBounds_toArray, List.set_cons_zero, List.set_cons_succ]
  refine' wpAnyJ_takeW (i := 11) (v := _) rfl (by kernel_rfl) (by kernel_rfl) (by kernel_rfl) (fun _ _ _ h => h) (Or.inl ⟨by rfl, ?hyLo8⟩) ?reLo8
  case hyLo8 => (intro W hSw; (try dsimp only at hSw); go_simp; try with_reducible rfl)
  try simp only [Act.put, List.setIfInBounds_toArray]
  refine' wpAnyJ_takeW (i := 12) (v := _) rfl (by kernel_rfl) (by kernel_rfl) (by kernel_rfl) (fun _ _ _ h => h) (Or.inl ⟨by rfl, ?hyLo9⟩) ?reLo9
  case hyLo9 => (intro W hSw; (try dsimp only at hSw); go_simp; try with_reducible rfl)
  try simp only [Act.put]
  refine wpAnyJ_ready (rs := [13]) (by kernel_rfl) (by simp) ?_
  refine AllReadyJ.cons (o := { dst := none, op := Op.store 49 (Operand.tmp 16) (Operand.tmp 14), type := 0, pos := "statement.go:77", after := #[{ on := 12, ground := Ground.data }, { on := 10, ground := Ground.data }, { on := 10, ground := Ground.chain }, { on := 0, ground := Ground.phase }, { on := 1, ground := Ground.phase }, { on := 2, ground := Ground.phase }, { on := 3, ground := Ground.phase }, { on := 4, ground := Ground.phase }, { on := 5, ground := Ground.phase }, { on := 6, ground := Ground.phase }, { on := 7, ground := Ground.phase }, { on := 8, ground := Ground.phase }, { on := 9, ground := Ground.phase }, { on := 10, ground := Ground.phase }], guard := none }) rfl (fun K hK => ?_) AllReadyJ.nil
  go_simp
  refine hK.out _ _ (fun h => absurd h (by decide)) ?_
  clear hK K
  try simp only [Act.put, List.setIfInBounds_toArray, List.set_cons_zero, List.set_cons_succ]
  refine wpAnyJ_done (by kernel_rfl) ?_ _
  obtain ⟨w4, hw⟩ : ∃ X, X = w9.setCell ⟨g, 3, none⟩ (.slice (some ⟨g9, 0, none⟩) (l.length + 2) c9) := ⟨_, rfl⟩
  rw [← hw] at R4 M4 N4 ⊢
  clear hw CA FA
  clear R3 M3
  clear T2q3 T3 C1 C2 C3 NV1 NV2 NV3 N0
  go_end0
  have ER := E3.out
  subst ER
  exact ⟨_, rfl, ⟨rfl, N4.out⟩, R4.out, M4.out⟩
theorem while_any {n : Nat} (hc : Cc n) (hb : Cbk n) {W W1 : World} {B k g op a : Nat} {t : ByteArray} {z : Int} {l : List Tree} {ws : List ByteArray} {s : S} (hk0 : k < W.heap.size) (hM : Mv W W1 (fun j => j = k)) (hR : Rd W1 B k ws s) (hN : Np W.heap.size W1 g op t z l a) (hl : l.length ≤ 2000000) {r : R Tree} (hr : r = (Yn.cond ws n s).bind fun c s1 => (Yn.block ws n s1).bind fun b s2 => .ok (.mk op t z (l ++ [c, b]) a) s2) (hne : r ≠ .out) : Calls Tryz.prog 186 #[.pointer (some ⟨k, 0, none⟩), .pointer (some ⟨g, 0, none⟩)] W1 (Out (isNode W.heap.size g) W B k ws r) := by
  refine calls_subN (hr.trans (loop_eq ws n s (fun c b s2 => R.ok (Tree.mk op t z (l ++ [c, b]) a) s2))) hne (fun h => loop_any hc hb hk0 hM hR hN hl rfl h) ?_ ?_
  · intro a er e w' hE hp
    subst hE
    exact hp
  · intro x s1 v w' _ hE hv hR1 hM1
    subst hE
    exact ⟨_, rfl, hv, hR1, hM1⟩
set_option maxHeartbeats 8000000 in
theorem branch_any {n : Nat} (hc : Cc n) (hb : Cbk n) (hs : Cst n) {W W1 : World} {B k g op a : Nat} {t : ByteArray} {z : Int} {l : List Tree} {ws : List ByteArray} {s : S} (hk0 : k < W.heap.size) (hM : Mv W W1 (fun j => j = k)) (hR : Rd W1 B k ws s) (hN : Np W.heap.size W1 g op t z l a) (hl : l.length ≤ 2000000) (hl1 : l.length ≤ 1000) {r : R Tree} (hr : r = (Yn.cond ws n s).bind fun c s1 => (Yn.block ws n s1).bind fun b s2 => if isAt s2 wElse then (if isAt (nx s2) wIf then stmt ws n (nx s2) else Yn.block ws n (nx s2)).bind fun x s3 => .ok (.mk op t z ((l ++ [c, b]) ++ [x]) a) s3 else .ok (.mk op t z (l ++ [c, b]) a) s2) (hne : r ≠ .out) : Calls Tryz.prog 185 #[.pointer (some ⟨k, 0, none⟩), .pointer (some ⟨g, 0, none⟩)] W1 (Out (isNode W.heap.size g) W B k ws r) := by
  obtain ⟨i0, hi0, hz0, hz1, hz2⟩ := info_parts infoN
  have H := hide hR
  have M0 := hide hM
  have hszM := hM.size
  have N0 := hide hN
  have HNE := hide hne
  have HE := hide hr
  clear hR hM hN hne hr
  have HC := hide hc
  have HB := hide hb
  clear hc hb
  have HS := hide hs
  clear hs
  go_enter Tryz.func185, Tryz.ntmps185
  go_wp2_with fail
  refine calls_subN (HE.out.trans (loop_eq ws n s (fun c b s2 => if isAt s2 wElse then (if isAt (nx s2) wIf then stmt ws n (nx s2) else Yn.block ws n (nx s2)).bind fun x s3 => R.ok (Tree.mk op t z ((l ++ [c, b]) ++ [x]) a) s3 else R.ok (Tree.mk op t z (l ++ [c, b]) a) s2))) HNE.out (fun h => loop_any HC.out HB.out hk0 M0.out H.out N0.out hl rfl h) (by (intro a er e w' hE hp; have hp2 := hp; obtain ⟨q, hq1, -⟩ := hp; subst hq1; subst hE; exact ⟨rfl, hp2⟩)) ?_
  intro x1 s1 v1 w1 hq hr hv hR hM
  have E1 := hide hr
  have R1 := hide hR
  have M1 := hide hM
  obtain ⟨hv, hn⟩ := hv
  subst hv
  have N1 := hide hn
  clear hq hr hR hM hn
  clear HE H M0 N0
  have JT := hide (takeIf_any R1.out wElse (by decide))
  go_wp2_with fail
  cases b : isAt s1 wElse with
  | false =>
    rw [b] at JT
    simp only [Bool.false_eq_true, if_false] at JT
    have he := E1.out
    rw [if_neg (by rw [b]; decide)] at he
    have E2' := hide he
    clear he b E1
    refine (JT.out).mono ?_
    rintro e w2 ⟨rfl, hR, hm⟩
    have R2 := hide hR
    have M2 := hide (M1.out.trans hm (fun _ _ e => e))
    have N2 := hide (N1.out.mvk hm hk0)
    clear hR hm
    clear R1 M1 N1
    go_wp2_with fail
    try simp only [Exit.inBlock, Exit.then]
    refine bodyPost_ret (results_none rfl _ _ _) rfl ?_
    have ER := E2'.out
    subst ER
    exact ⟨_, rfl, ⟨rfl, N2.out⟩, R2.out, M2.out⟩
  | true =>
    rw [b] at JT
    simp only [if_true] at JT
    have he := E1.out
    rw [if_pos b] at he
    have E2' := hide he
    clear he b E1
    refine (JT.out).mono ?_
    rintro e w2 ⟨rfl, hR, hm⟩
    have R2 := hide hR
    have M2 := hide (M1.out.trans hm (fun _ _ e => e))
    have N2 := hide (N1.out.mvk hm hk0)
    clear hR hm
    clear R1 M1 N1
    go_wp2_with fail
    refine (isAt_any R2.out wIf).mono ?_
    rintro e w3 ⟨rfl, hb⟩
    have R3 := hide (R2.out.later hb)
    have M3 := hide (M2.out.later hb)
    have N3 := hide (N2.out.later hb)
    clear hb
    clear R2 M2 N2
    obtain ⟨l2, hl2⟩ : ∃ l2, l2 = l ++ [x1.1, x1.2] := ⟨_, rfl⟩
    rw [← hl2] at N3 E2'
    have hl3 : l2.length ≤ 2000 := by rw [hl2, List.length_append]; simp; omega
    clear hl2
    cases b : isAt (nx s1) wIf with
    | true =>
      have he := E2'.out
      rw [if_pos b] at he
      have E3' := hide he
      clear he b E2'
      have nd := N3.out.later (below_drew w3)
      obtain ⟨ao, c7, ps7, nv⟩ := nd.nv
      have NV4 := hide nv
      have C4 := nv.cell
      clear nd nv
      go_upto_region 3 with fail
      refine wp_region_late (J := fun i => i != 11) (S := fun Wq => Wq.cell? ⟨g, 3, none⟩ = some (.slice ao l2.length c7)) (by kernel_rfl) C4 (fun hHeld => ?_)
      refine' wpAnyJ_takeW (i := 0) (v := _) rfl (by kernel_rfl) (by kernel_rfl) (by kernel_rfl) (fun _ _ _ h => h) (Or.inl ⟨by rfl, ?hyBa1⟩) ?reBa1
      case hyBa1 => (intro W hSw; (try dsimp only at hSw); go_simp; try with_reducible rfl)
      try simp only [Act.put, List.setIfInBounds_toArray]
      refine' wpAnyJ_takeW (i := 1) (v := _) rfl (by kernel_rfl) (by kernel_rfl) (by kernel_rfl) (fun _ _ _ h => h) (Or.inl ⟨by rfl, ?hyBa2⟩) ?reBa2
      case hyBa2 => (intro W hSw; (try dsimp only at hSw); go_simp; try with_reducible rfl)
      try simp only [Act.put]
      refine' wpAnyJ_takeW (i := 2) (v := _) rfl (by kernel_rfl) (by kernel_rfl) (by kernel_rfl) (fun _ _ _ h => h) (Or.inl ⟨by rfl, ?hyBa3⟩) ?reBa3
      case hyBa3 => (intro W hSw; (try dsimp only at hSw); go_simp; try with_reducible rfl)
      try simp only [Act.put]
      refine' wpAnyJ_takeW (i := 3) (v := _) rfl (by kernel_rfl) (by kernel_rfl) (by kernel_rfl) (fun _ _ _ h => h) (Or.inl ⟨by rfl, ?hyBa4⟩) ?reBa4
      case hyBa4 => (intro W hSw; (try dsimp only at hSw); go_simp; try with_reducible rfl)
      try simp only [Act.put]
      refine' wpAnyJ_take (i := 4) (v := _) rfl (by kernel_rfl) (by kernel_rfl) (by kernel_rfl) (by kernel_rfl) (fun _ _ _ h => h) (Or.inl ⟨by rfl, ?hyBa5⟩) (by assumption) ?reBa5
      case hyBa5 => (intro W hSw; (try dsimp only at hSw); go_simp; try with_reducible rfl)
      try simp only [Act.put]
      refine' wpAnyJ_takeW (i := 5) (v := _) rfl (by kernel_rfl) (by kernel_rfl) (by kernel_rfl) (fun _ _ _ h => h) (Or.inl ⟨by rfl, ?hyBa6⟩) ?reBa6
      case hyBa6 => (intro W hSw; (try dsimp only at hSw); go_simp; try with_reducible rfl)
      try simp only [Act.put]
      refine wpAnyJ_ready (rs := [6]) (by kernel_rfl) (by simp) ?_
      refine AllReadyJ.cons (o := { dst := some 18, op := Op.call { callee := Callee.value (Operand.func 163), args := #[Operand.tmp 17], argTypes := #[56] }, type := 23, pos := "statement.go:71", after := #[{ on := 5, ground := Ground.data }], guard := none }) rfl (fun K hK => ?_) AllReadyJ.nil
      go_simp
      go_at_call 163
      refine calls_sub E3'.out HNE.out (M3.out.later (below_drew w3)) (fun h => HS.out _ _ _ _ _ (R3.out.later (below_drew w3)) h) (by (intro a er e w' hE hp; have hp2 := hp; obtain ⟨q, hq1, -⟩ := hp; subst hq1; subst hE; exact ⟨rfl, hp2⟩)) ?_
      intro x5 s5 v5 w5 hq hr hv hR hm hM
      have E5 := hide hr
      have R5 := hide hR
      have M5 := hide hM
      have hsz5 : w3.heap.size ≤ w5.heap.size := hm.size
      obtain ⟨g5, rfl⟩ := Nd.ptr hv
      have T5 := hide (Nd.tight _ _ hv)
      have NV5 := hide (NV4.out.mvk hm hk0)
      clear hq hr hR hm hM hv
      clear E3' R3 M3
      have C5 := NV5.out.cell
      have CB := (NV5.out.later (below_alloc w5 (.cells #[.pointer (some ⟨g5, 0, none⟩)] 23))).cell
      have hcp := NV5.out.cap
      clear hHeld
      go_simp
      refine hK.out _ _ (fun _ _ => C5) ?_
      clear hK K
      try simp only [Act.put, List.setIfInBounds_toArray, List.set_cons_zero, List.set_cons_succ]
      refine wpAnyJ_ready (rs := [7]) (by kernel_rfl) (by simp) ?_
      refine AllReadyJ.cons (o := { dst := some 19, op := Op.buildSlice 49 1 #[(0, Operand.tmp 18)], type := 49, pos := "statement.go:71", after := #[{ on := 6, ground := Ground.data }], guard := none }) rfl (fun K hK => ?_) AllReadyJ.nil
      go_simp
      refine hK.out _ _ (fun _ _ => CB) ?_
      clear hK K
      try simp only [Act.put, List.setIfInBounds_toArray, List.set_cons_zero, List.set_cons_succ]
      refine wpAnyJ_ready (rs := [8]) (by kernel_rfl) (by simp) ?_
      refine AllReadyJ.cons (o := { dst := some 20, op := Op.call { callee := Callee.builtin Builtin.append, args := #[Operand.tmp 16, Operand.tmp 19], argTypes := #[49, 49] }, type := 49, pos := "statement.go:71", after := #[{ on := 4, ground := Ground.data }, { on := 7, ground := Ground.data }, { on := 6, ground := Ground.chain }], guard := none }) rfl (fun K hK => ?_) AllReadyJ.nil
      refine step_append_lies _ rfl (.tmp 16) (.tmp 19) 49 rfl 0 23 i0 (.pointer none) 1 8 und49 hi0 hz0 hz1 hz2 rfl (by decide) (.slice ao l2.length c7) l2.length (ps7) (by simp [Act.eval]) (NV5.out.own.alloc _) ⟨w5.heap.size, 0, none⟩ 1 1 [.pointer (some ⟨g5, 0, none⟩)] (by simp [Act.eval]) rfl (by intro j u hj; match j, hj with | 0, hj => simp at hj; subst hj; simp [Addr.add]) (by intro u hu; simp at hu; subst hu; rfl) (by omega) (by unfold maxLen; omega) (by omega) (Nat.zero_le _) _ rfl ?_
      intro g9 c9 w9 ho9 hg9 ha9 _
      have hx : Nds (fun q => W.heap.size ≤ q ∧ q ≠ g ∧ (Value.slice ao l2.length c7).ownBlock ≠ some q) w5 [x5] [.pointer (some ⟨g5, 0, none⟩)] := by
        rw [Nds]
        refine ⟨_, _, rfl, Nd.mono (fun q hq => NV4.out.old (show w3.heap.size ≤ q by have : w3.heap.size ≤ q := hq.1; omega)) _ _ T5.out, ?_⟩
        exact Nds.none
      have np := Nv.push NV5.out hx (by simp) ho9 hg9 ha9
      have CA := np.2.1
      have FA := np.2.2
      have N6 := hide np.1.1
      have R6 := hide (R5.out.mv np.1.2 (fun j (e : W.heap.size ≤ j) => by have := R5.out.1; omega))
      have M6 := hide (M5.out.trans np.1.2 (fun j hj (e : W.heap.size ≤ j) => by omega))
      clear np hx ho9 hg9 ha9 CB
      refine hK.out _ _ (fun _ _ => CA) ?_
      clear hK K
      try simp only [Act.put, List.setIfInBounds_toArray, List.set_cons_zero, List.set_cons_succ]
      refine' wpAnyJ_takeW (i := 9) (v := _) rfl (by kernel_rfl) (by kernel_rfl) (by kernel_rfl) (fun _ _ _ h => h) (Or.inl ⟨by rfl, ?hyBa7⟩) ?reBa7
      case hyBa7 => (intro W hSw; (try dsimp only at hSw); go_simp; try with_reducible rfl)
      try simp only [Act.put, List.setIfInBounds_toArray]
      refine' wpAnyJ_takeW (i := 10) (v := _) rfl (by kernel_rfl) (by kernel_rfl) (by kernel_rfl) (fun _ _ _ h => h) (Or.inl ⟨by rfl, ?hyBa8⟩) ?reBa8
      case hyBa8 => (intro W hSw; (try dsimp only at hSw); go_simp; try with_reducible rfl)
      try simp only [Act.put]
      refine wpAnyJ_ready (rs := [11]) (by kernel_rfl) (by simp) ?_
      refine AllReadyJ.cons (o := { dst := none, op := Op.store 49 (Operand.tmp 22) (Operand.tmp 20), type := 0, pos := "statement.go:71", after := #[{ on := 10, ground := Ground.data }, { on := 8, ground := Ground.data }, { on := 8, ground := Ground.chain }, { on := 0, ground := Ground.phase }, { on := 1, ground := Ground.phase }, { on := 2, ground := Ground.phase }, { on := 3, ground := Ground.phase }, { on := 4, ground := Ground.phase }, { on := 5, ground := Ground.phase }, { on := 6, ground := Ground.phase }, { on := 7, ground := Ground.phase }, { on := 8, ground := Ground.phase }], guard := none }) rfl (fun K hK => ?_) AllReadyJ.nil
      go_simp
      refine hK.out _ _ (fun h => absurd h (by decide)) ?_
      clear hK K
      try simp only [Act.put, List.setIfInBounds_toArray, List.set_cons_zero, List.set_cons_succ]
      refine wpAnyJ_done (by kernel_rfl) ?_ _
      obtain ⟨w6, hw⟩ : ∃ X, X = w9.setCell ⟨g, 3, none⟩ (.slice (some ⟨g9, 0, none⟩) (l2.length + 1) c9) := ⟨_, rfl⟩
      rw [← hw] at R6 M6 N6 ⊢
      clear hw CA FA
      clear R5 M5
      clear T5 C4 C5 NV4 NV5 N3
      go_end0
      have ER := E5.out
      subst ER
      exact ⟨_, rfl, ⟨rfl, N6.out⟩, R6.out, M6.out⟩
    | false =>
      have he := E2'.out
      rw [if_neg (by rw [b]; decide)] at he
      have E3' := hide he
      clear he b E2'
      have nd := N3.out.later (below_drew w3)
      obtain ⟨ao, c7, ps7, nv⟩ := nd.nv
      have NV4 := hide nv
      have C4 := nv.cell
      clear nd nv
      go_upto_region 4 with fail
      refine wp_region_late (J := fun i => i != 11) (S := fun Wq => Wq.cell? ⟨g, 3, none⟩ = some (.slice ao l2.length c7)) (by kernel_rfl) C4 (fun hHeld => ?_)
      refine' wpAnyJ_takeW (i := 0) (v := _) rfl (by kernel_rfl) (by kernel_rfl) (by kernel_rfl) (fun _ _ _ h => h) (Or.inl ⟨by rfl, ?hyBb1⟩) ?reBb1
      case hyBb1 => (intro W hSw; (try dsimp only at hSw); go_simp; try with_reducible rfl)
      try simp only [Act.put, List.setIfInBounds_toArray]
      refine' wpAnyJ_takeW (i := 1) (v := _) rfl (by kernel_rfl) (by kernel_rfl) (by kernel_rfl) (fun _ _ _ h => h) (Or.inl ⟨by rfl, ?hyBb2⟩) ?reBb2
      case hyBb2 => (intro W hSw; (try dsimp only at hSw); go_simp; try with_reducible rfl)
      try simp only [Act.put]
      refine' wpAnyJ_takeW (i := 2) (v := _) rfl (by kernel_rfl) (by kernel_rfl) (by kernel_rfl) (fun _ _ _ h => h) (Or.inl ⟨by rfl, ?hyBb3⟩) ?reBb3
      case hyBb3 => (intro W hSw; (try dsimp only at hSw); go_simp; try with_reducible rfl)
      try simp only [Act.put]
      refine' wpAnyJ_takeW (i := 3) (v := _) rfl (by kernel_rfl) (by kernel_rfl) (by kernel_rfl) (fun _ _ _ h => h) (Or.inl ⟨by rfl, ?hyBb4⟩) ?reBb4
      case hyBb4 => (intro W hSw; (try dsimp only at hSw); go_simp; try with_reducible rfl)
      try simp only [Act.put]
      refine' wpAnyJ_take (i := 4) (v := _) rfl (by kernel_rfl) (by kernel_rfl) (by kernel_rfl) (by kernel_rfl) (fun _ _ _ h => h) (Or.inl ⟨by rfl, ?hyBb5⟩) (by assumption) ?reBb5
      case hyBb5 => (intro W hSw; (try dsimp only at hSw); go_simp; try with_reducible rfl)
      try simp only [Act.put]
      refine' wpAnyJ_takeW (i := 5) (v := _) rfl (by kernel_rfl) (by kernel_rfl) (by kernel_rfl) (fun _ _ _ h => h) (Or.inl ⟨by rfl, ?hyBb6⟩) ?reBb6
      case hyBb6 => (intro W hSw; (try dsimp only at hSw); go_simp; try with_reducible rfl)
      try simp only [Act.put]
      refine wpAnyJ_ready (rs := [6]) (by kernel_rfl) (by simp) ?_
      refine AllReadyJ.cons (o := { dst := some 29, op := Op.call { callee := Callee.value (Operand.func 138), args := #[Operand.tmp 28], argTypes := #[56] }, type := 23, pos := "statement.go:73", after := #[{ on := 5, ground := Ground.data }], guard := none }) rfl (fun K hK => ?_) AllReadyJ.nil
      go_simp
      go_at_call 138
      refine calls_sub E3'.out HNE.out (M3.out.later (below_drew w3)) (fun h => HB.out _ _ _ _ _ (R3.out.later (below_drew w3)) h) (by (intro a er e w' hE hp; have hp2 := hp; obtain ⟨q, hq1, -⟩ := hp; subst hq1; subst hE; exact ⟨rfl, hp2⟩)) ?_
      intro x5 s5 v5 w5 hq hr hv hR hm hM
      have E5 := hide hr
      have R5 := hide hR
      have M5 := hide hM
      have hsz5 : w3.heap.size ≤ w5.heap.size := hm.size
      obtain ⟨g5, rfl⟩ := Nd.ptr hv
      have T5 := hide (Nd.tight _ _ hv)
      have NV5 := hide (NV4.out.mvk hm hk0)
      clear hq hr hR hm hM hv
      clear E3' R3 M3
      have C5 := NV5.out.cell
      have CB := (NV5.out.later (below_alloc w5 (.cells #[.pointer (some ⟨g5, 0, none⟩)] 23))).cell
      have hcp := NV5.out.cap
      clear hHeld
      go_simp
      refine hK.out _ _ (fun _ _ => C5) ?_
      clear hK K
      try simp only [Act.put, List.setIfInBounds_toArray, List.set_cons_zero, List.set_cons_succ]
      refine wpAnyJ_ready (rs := [7]) (by kernel_rfl) (by simp) ?_
      refine AllReadyJ.cons (o := { dst := some 30, op := Op.buildSlice 49 1 #[(0, Operand.tmp 29)], type := 49, pos := "statement.go:73", after := #[{ on := 6, ground := Ground.data }], guard := none }) rfl (fun K hK => ?_) AllReadyJ.nil
      go_simp
      refine hK.out _ _ (fun _ _ => CB) ?_
      clear hK K
      try simp only [Act.put, List.setIfInBounds_toArray, List.set_cons_zero, List.set_cons_succ]
      refine wpAnyJ_ready (rs := [8]) (by kernel_rfl) (by simp) ?_
      refine AllReadyJ.cons (o := { dst := some 31, op := Op.call { callee := Callee.builtin Builtin.append, args := #[Operand.tmp 27, Operand.tmp 30], argTypes := #[49, 49] }, type := 49, pos := "statement.go:73", after := #[{ on := 4, ground := Ground.data }, { on := 7, ground := Ground.data }, { on := 6, ground := Ground.chain }], guard := none }) rfl (fun K hK => ?_) AllReadyJ.nil
      refine step_append_lies _ rfl (.tmp 27) (.tmp 30) 49 rfl 0 23 i0 (.pointer none) 1 8 und49 hi0 hz0 hz1 hz2 rfl (by decide) (.slice ao l2.length c7) l2.length (ps7) (by simp [Act.eval]) (NV5.out.own.alloc _) ⟨w5.heap.size, 0, none⟩ 1 1 [.pointer (some ⟨g5, 0, none⟩)] (by simp [Act.eval]) rfl (by intro j u hj; match j, hj with | 0, hj => simp at hj; subst hj; simp [Addr.add]) (by intro u hu; simp at hu; subst hu; rfl) (by omega) (by unfold maxLen; omega) (by omega) (Nat.zero_le _) _ rfl ?_
      intro g9 c9 w9 ho9 hg9 ha9 _
      have hx : Nds (fun q => W.heap.size ≤ q ∧ q ≠ g ∧ (Value.slice ao l2.length c7).ownBlock ≠ some q) w5 [x5] [.pointer (some ⟨g5, 0, none⟩)] := by
        rw [Nds]
        refine ⟨_, _, rfl, Nd.mono (fun q hq => NV4.out.old (show w3.heap.size ≤ q by have : w3.heap.size ≤ q := hq.1; omega)) _ _ T5.out, ?_⟩
        exact Nds.none
      have np := Nv.push NV5.out hx (by simp) ho9 hg9 ha9
      have CA := np.2.1
      have FA := np.2.2
      have N6 := hide np.1.1
      have R6 := hide (R5.out.mv np.1.2 (fun j (e : W.heap.size ≤ j) => by have := R5.out.1; omega))
      have M6 := hide (M5.out.trans np.1.2 (fun j hj (e : W.heap.size ≤ j) => by omega))
      clear np hx ho9 hg9 ha9 CB
      refine hK.out _ _ (fun _ _ => CA) ?_
      clear hK K
      try simp only [Act.put, List.setIfInBounds_toArray, List.set_cons_zero, List.set_cons_succ]
      refine' wpAnyJ_takeW (i := 9) (v := _) rfl (by kernel_rfl) (by kernel_rfl) (by kernel_rfl) (fun _ _ _ h => h) (Or.inl ⟨by rfl, ?hyBb7⟩) ?reBb7
      case hyBb7 => (intro W hSw; (try dsimp only at hSw); go_simp; try with_reducible rfl)
      try simp only [Act.put, List.setIfInBounds_toArray]
      refine' wpAnyJ_takeW (i := 10) (v := _) rfl (by kernel_rfl) (by kernel_rfl) (by kernel_rfl) (fun _ _ _ h => h) (Or.inl ⟨by rfl, ?hyBb8⟩) ?reBb8
      case hyBb8 => (intro W hSw; (try dsimp only at hSw); go_simp; try with_reducible rfl)
      try simp only [Act.put]
      refine wpAnyJ_ready (rs := [11]) (by kernel_rfl) (by simp) ?_
      refine AllReadyJ.cons (o := { dst := none, op := Op.store 49 (Operand.tmp 33) (Operand.tmp 31), type := 0, pos := "statement.go:73", after := #[{ on := 10, ground := Ground.data }, { on := 8, ground := Ground.data }, { on := 8, ground := Ground.chain }, { on := 0, ground := Ground.phase }, { on := 1, ground := Ground.phase }, { on := 2, ground := Ground.phase }, { on := 3, ground := Ground.phase }, { on := 4, ground := Ground.phase }, { on := 5, ground := Ground.phase }, { on := 6, ground := Ground.phase }, { on := 7, ground := Ground.phase }, { on := 8, ground := Ground.phase }], guard := none }) rfl (fun K hK => ?_) AllReadyJ.nil
      go_simp
      refine hK.out _ _ (fun h => absurd h (by decide)) ?_
      clear hK K
      try simp only [Act.put, List.setIfInBounds_toArray, List.set_cons_zero, List.set_cons_succ]
      refine wpAnyJ_done (by kernel_rfl) ?_ _
      obtain ⟨w6, hw⟩ : ∃ X, X = w9.setCell ⟨g, 3, none⟩ (.slice (some ⟨g9, 0, none⟩) (l2.length + 1) c9) := ⟨_, rfl⟩
      rw [← hw] at R6 M6 N6 ⊢
      clear hw CA FA
      clear R5 M5
      clear T5 C4 C5 NV4 NV5 N3
      go_end0
      have ER := E5.out
      subst ER
      exact ⟨_, rfl, ⟨rfl, N6.out⟩, R6.out, M6.out⟩
end Go.Proofs.YtmfoehaeejhlpaaGreatDoor
