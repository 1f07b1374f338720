import Derived.Test.YtmfoehaeejhlpaaGreatDoorGaAH
/-
  The reader: statements that fill a node, the short ones.
-/
namespace Go.Proofs.YtmfoehaeejhlpaaGreatDoor
open Go.RowKit Yn
set_option maxRecDepth 100000
/-- A node takes one more. -/
def isFill (lo g op : Nat) (t : ByteArray) (z : Int) (l : List Tree) (a : Nat) : Tree → Value → World → Prop := fun x v w => v = .tuple #[] ∧ Np lo w g op t z (l ++ [x]) a
/-- A node is whole. -/
def isNode (lo g : Nat) : Tree → Value → World → Prop := fun T v w => v = .tuple #[] ∧ match T with | .mk op t z l a => Np lo w g op t z l a
theorem bind_assoc {α β γ : Type} (r : R α) (f : α → S → R β) (g : β → S → R γ) : (r.bind f).bind g = r.bind fun x s => (f x s).bind g := by
  cases r <;> rfl
theorem end_eq {β : Type} (s : S) (f : S → R β) : ((take cSemi s).bind fun _ s => f s) = ((take cSemi s).bind fun _ s => .ok () s).bind fun _ s => f s := by
  rw [bind_assoc]
  rfl
theorem end_any {W : World} {B k : Nat} {ws : List ByteArray} {s : S} (hR : Rd W B k ws s) (v : Value) : Calls Tryz.prog 191 #[.pointer (some ⟨k, 0, none⟩), v] W (Out isNone W B k ws ((take cSemi s).bind fun _ s => .ok () s)) := by
  obtain ⟨r, hr⟩ : ∃ r, r = (take cSemi s).bind fun _ s => R.ok () s := ⟨_, rfl⟩
  rw [← hr]
  have H := hide hR
  have HE := hide hr
  have HNE : Hid (r ≠ .out) := by
    unfold Hid
    rw [hr]
    have := take_out (x := cSemi) (s := s)
    revert this
    cases take cSemi s with
    | ok _ _ => intro _ h; cases h
    | no _ _ => intro _ h; cases h
    | out => intro h; exact absurd rfl h
  clear hR hr
  go_enter Tryz.func191, Tryz.ntmps191
  go_wp2_with fail
  refine calls_sub HE.out HNE.out (Mv.refl _ _) (fun h => take_any H.out cSemi (by decide)) (by (intro a er e w' hE hp; have hp2 := hp; obtain ⟨q, hq1, -⟩ := hp; subst hq1; subst hE; exact ⟨rfl, hp2⟩)) ?_
  intro x1 s1 v1 w1 hq hr hv hR hm hM
  have E1 := hide hr
  have R1 := hide hR
  have M1 := hide hM
  subst hv
  clear hq hr hR hm hM
  go_wp2_with fail
  go_end0
  have ER := E1.out
  subst ER
  exact ⟨_, rfl, rfl, R1.out, M1.out⟩
set_option maxHeartbeats 8000000 in
theorem tail_any {n : Nat} (hc : Cc n) {W W1 : World} {B k g op a : Nat} {t : ByteArray} {z : Int} {l : List Tree} {ws : List ByteArray} {s : S} (hk0 : k < W.heap.size) (hM : Mv W W1 (fun j => j = k)) (hR : Rd W1 B k ws s) (hN : Np W.heap.size W1 g op t z l a) (hl : l.length ≤ 2000000) {r : R Tree} (hr : r = Yn.tail ws n s) (hne : r ≠ .out) : Calls Tryz.prog 192 #[.pointer (some ⟨k, 0, none⟩), .pointer (some ⟨g, 0, none⟩)] W1 (Out (isFill W.heap.size g op t z l a) W B k ws r) := by
  obtain ⟨i0, hi0, hz0, hz1, hz2⟩ := info_parts infoN
  have H := hide hR
  have M0 := hide hM
  have N0 := hide hN
  have HNE := hide hne
  have HE := hide hr
  clear hR hM hN hne hr
  have HC := hide hc
  clear hc
  unfold Yn.tail at HE
  go_enter Tryz.func192, Tryz.ntmps192
  have nd := N0.out.later (below_drew W1)
  obtain ⟨ao, c7, ps7, nv⟩ := nd.nv
  have NV1 := hide nv
  have C1 := nv.cell
  clear nd nv
  go_upto_region 0 with fail
  refine wp_region_late (J := fun i => i != 11) (S := fun Wq => Wq.cell? ⟨g, 3, none⟩ = some (.slice ao l.length c7)) (by kernel_rfl) C1 (fun hHeld => ?_)
  refine' wpAnyJ_takeW (i := 0) (oi := { dst := some 4, op := Op.move (Operand.tmp 1), type := 23, pos := "statement.go:102", after := #[], guard := none }) (v := _) rfl (by kernel_rfl) (by kernel_rfl) (by kernel_rfl) (fun _ _ _ h => h) (Or.inl ⟨by rfl, ?hyTa1⟩) ?reTa1
  case hyTa1 => (intro W hSw; (try dsimp only at hSw); go_simp; try with_reducible rfl)
  try simp only [Act.put, List.setIfInBounds_toArray, List.set_cons_zero, List.set_cons_succ]
  refine' wpAnyJ_takeW (i := 1) (oi := { dst := some 5, op := Op.move (Operand.tmp 1), type := 23, pos := "statement.go:102", after := #[], guard := none }) (v := _) rfl (by kernel_rfl) (by kernel_rfl) (by kernel_rfl) (fun _ _ _ h => h) (Or.inl ⟨by rfl, ?hyTa2⟩) ?reTa2
  case hyTa2 => (intro W hSw; (try dsimp only at hSw); go_simp; try with_reducible rfl)
  try simp only [Act.put, List.setIfInBounds_toArray, List.set_cons_zero, List.set_cons_succ]
  refine' wpAnyJ_takeW (i := 2) (oi := { dst := some 6, op := Op.nilCheck (Operand.tmp 5), type := 0, pos := "statement.go:102", after := #[{ on := 1, ground := Ground.data }], guard := none }) (v := _) rfl (by kernel_rfl) (by kernel_rfl) (by kernel_rfl) (fun _ _ _ h => h) (Or.inl ⟨by rfl, ?hyTa3⟩) ?reTa3
  case hyTa3 => (intro W hSw; (try dsimp only at hSw); go_simp; try with_reducible rfl)
  try simp only [Act.put, List.setIfInBounds_toArray, List.set_cons_zero, List.set_cons_succ]
  refine' wpAnyJ_takeW (i := 3) (oi := { dst := some 7, op := Op.fieldAddr 51 (Operand.tmp 6) 3, type := 0, pos := "statement.go:102", after := #[{ on := 2, ground := Ground.data }], guard := none }) (v := _) rfl (by kernel_rfl) (by kernel_rfl) (by kernel_rfl) (fun _ _ _ h => h) (Or.inl ⟨by rfl, ?hyTa4⟩) ?reTa4
  case hyTa4 => (intro W hSw; (try dsimp only at hSw); go_simp; try with_reducible rfl)
  try simp only [Act.put, List.setIfInBounds_toArray, List.set_cons_zero, List.set_cons_succ]
  refine' wpAnyJ_take (i := 4) (oi := { dst := some 8, op := Op.load 49 (Operand.tmp 7), type := 49, pos := "statement.go:102", after := #[{ on := 3, ground := Ground.data }], guard := none }) (v := _) rfl (by kernel_rfl) (by kernel_rfl) (by kernel_rfl) (by kernel_rfl) (fun _ _ _ h => h) (Or.inl ⟨by rfl, ?hyTa5⟩) (by assumption) ?reTa5
  case hyTa5 => (intro W hSw; (try dsimp only at hSw); go_simp; try with_reducible rfl)
  try simp only [Act.put, List.setIfInBounds_toArray, List.set_cons_zero, List.set_cons_succ]
  refine' wpAnyJ_takeW (i := 5) (oi := { dst := some 9, op := Op.move (Operand.tmp 0), type := 56, pos := "statement.go:102", after := #[], guard := none }) (v := _) rfl (by kernel_rfl) (by kernel_rfl) (by kernel_rfl) (fun _ _ _ h => h) (Or.inl ⟨by rfl, ?hyTa6⟩) ?reTa6
  case hyTa6 => (intro W hSw; (try dsimp only at hSw); go_simp; try with_reducible rfl)
  try simp only [Act.put, List.setIfInBounds_toArray, List.set_cons_zero, List.set_cons_succ]
  refine wpAnyJ_ready (rs := [6]) (by kernel_rfl) (by simp) ?_
  refine AllReadyJ.cons (o := { dst := some 10, op := Op.call { callee := Callee.value (Operand.func 201), args := #[Operand.tmp 9], argTypes := #[56] }, type := 23, pos := "statement.go:102", after := #[{ on := 5, ground := Ground.data }], guard := none }) rfl (fun K hK => ?_) AllReadyJ.nil
  go_simp
  go_at_call 201
  refine calls_sub HE.out HNE.out (M0.out.later (below_drew W1)) (fun h => HC.out _ _ _ _ _ (H.out.later (below_drew W1)) h) (by (intro a er e w' hE hp; have hp2 := hp; obtain ⟨q, hq1, -⟩ := hp; subst hq1; subst hE; exact ⟨rfl, hp2⟩)) ?_
  intro x2 s2 v2 w2 hq hr hv hR hm hM
  have E2 := hide hr
  have R2 := hide hR
  have M2 := hide hM
  have hsz2 : W1.heap.size ≤ w2.heap.size := hm.size
  obtain ⟨g2, rfl⟩ := Nd.ptr hv
  have T2 := hide (Nd.tight _ _ hv)
  have NV2 := hide (NV1.out.mvk hm hk0)
  clear hq hr hR hm hM hv
  clear HE H M0
  have C2 := NV2.out.cell
  have CB := (NV2.out.later (below_alloc w2 (.cells #[.pointer (some ⟨g2, 0, none⟩)] 23))).cell
  have hcp := NV2.out.cap
  clear hHeld
  go_simp
  refine hK.out _ _ (fun _ _ => C2) ?_
  clear hK K
  try simp only [Act.put, List.setIfInBounds_toArray, List.set_cons_zero, List.set_cons_succ]
  refine wpAnyJ_ready (rs := [7]) (by kernel_rfl) (by simp) ?_
  refine AllReadyJ.cons (o := { dst := some 11, op := Op.buildSlice 49 1 #[(0, Operand.tmp 10)], type := 49, pos := "statement.go:102", after := #[{ on := 6, ground := Ground.data }], guard := none }) rfl (fun K hK => ?_) AllReadyJ.nil
  go_simp
  refine hK.out _ _ (fun _ _ => CB) ?_
  clear hK K
  try simp only [Act.put, List.setIfInBounds_toArray, List.set_cons_zero, List.set_cons_succ]
  refine wpAnyJ_ready (rs := [8]) (by kernel_rfl) (by simp) ?_
  refine AllReadyJ.cons (o := { dst := some 12, op := Op.call { callee := Callee.builtin Builtin.append, args := #[Operand.tmp 8, Operand.tmp 11], argTypes := #[49, 49] }, type := 49, pos := "statement.go:102", after := #[{ on := 4, ground := Ground.data }, { on := 7, ground := Ground.data }, { on := 6, ground := Ground.chain }], guard := none }) rfl (fun K hK => ?_) AllReadyJ.nil
  refine step_append_lies _ rfl (.tmp 8) (.tmp 11) 49 rfl 0 23 i0 (.pointer none) 1 8 und49 hi0 hz0 hz1 hz2 rfl (by decide) (.slice ao l.length c7) l.length (ps7) (by simp [Act.eval]) (NV2.out.own.alloc _) ⟨w2.heap.size, 0, none⟩ 1 1 [.pointer (some ⟨g2, 0, none⟩)] (by simp [Act.eval]) rfl (by intro j u hj; match j, hj with | 0, hj => simp at hj; subst hj; simp [Addr.add]) (by intro u hu; simp at hu; subst hu; rfl) (by omega) (by unfold maxLen; omega) (by omega) (Nat.zero_le _) _ rfl ?_
  intro g9 c9 w9 ho9 hg9 ha9 _
  have hx : Nds (fun q => W.heap.size ≤ q ∧ q ≠ g ∧ (Value.slice ao l.length c7).ownBlock ≠ some q) w2 [x2] [.pointer (some ⟨g2, 0, none⟩)] := by
    rw [Nds]
    refine ⟨_, _, rfl, Nd.mono (fun q hq => NV1.out.old (by have : W1.heap.size ≤ q := hq.1; omega)) _ _ T2.out, ?_⟩
    exact Nds.none
  have np := Nv.push NV2.out hx (by simp) ho9 hg9 ha9
  have CA := np.2.1
  have FA := np.2.2
  have N3 := hide np.1.1
  have R3 := hide (R2.out.mv np.1.2 (fun j (e : W.heap.size ≤ j) => by have := R2.out.1; omega))
  have M3 := hide (M2.out.trans np.1.2 (fun j hj (e : W.heap.size ≤ j) => by omega))
  clear np hx ho9 hg9 ha9 CB
  refine hK.out _ _ (fun _ _ => CA) ?_
  clear hK K
  try simp only [Act.put, List.setIfInBounds_toArray, List.set_cons_zero, List.set_cons_succ]
  refine' wpAnyJ_takeW (i := 9) (oi := { dst := some 13, op := Op.nilCheck (Operand.tmp 4), type := 0, pos := "statement.go:102", after := #[{ on := 0, ground := Ground.data }, { on := 0, ground := Ground.phase }, { on := 1, ground := Ground.phase }, { on := 2, ground := Ground.phase }, { on := 3, ground := Ground.phase }, { on := 4, ground := Ground.phase }, { on := 5, ground := Ground.phase }, { on := 6, ground := Ground.phase }, { on := 7, ground := Ground.phase }, { on := 8, ground := Ground.phase }], guard := none }) (v := _) rfl (by kernel_rfl) (by kernel_rfl) (by kernel_rfl) (fun _ _ _ h => h) (Or.inl ⟨by rfl, ?hyTa7⟩) ?reTa7
  case hyTa7 => (intro W hSw; (try dsimp only at hSw); go_simp; try with_reducible rfl)
  try simp only [Act.put, List.setIfInBounds_toArray, List.set_cons_zero, List.set_cons_succ]
  refine' wpAnyJ_takeW (i := 10) (oi := { dst := some 14, op := Op.fieldAddr 51 (Operand.tmp 13) 3, type := 0, pos := "statement.go:102", after := #[{ on := 9, ground := Ground.data }, { on := 0, ground := Ground.phase }, { on := 1, ground := Ground.phase }, { on := 2, ground := Ground.phase }, { on := 3, ground := Ground.phase }, { on := 4, ground := Ground.phase }, { on := 5, ground := Ground.phase }, { on := 6, ground := Ground.phase }, { on := 7, ground := Ground.phase }, { on := 8, ground := Ground.phase }], guard := none }) (v := _) rfl (by kernel_rfl) (by kernel_rfl) (by kernel_rfl) (fun _ _ _ h => h) (Or.inl ⟨by rfl, ?hyTa8⟩) ?reTa8
  case hyTa8 => (intro W hSw; (try dsimp only at hSw); go_simp; try with_reducible rfl)
  try simp only [Act.put, List.setIfInBounds_toArray, List.set_cons_zero, List.set_cons_succ]
  refine wpAnyJ_ready (rs := [11]) (by kernel_rfl) (by simp) ?_
  refine AllReadyJ.cons (o := { dst := none, op := Op.store 49 (Operand.tmp 14) (Operand.tmp 12), type := 0, pos := "statement.go:102", after := #[{ on := 10, ground := Ground.data }, { on := 8, ground := Ground.data }, { on := 8, ground := Ground.chain }, { on := 0, ground := Ground.phase }, { on := 1, ground := Ground.phase }, { on := 2, ground := Ground.phase }, { on := 3, ground := Ground.phase }, { on := 4, ground := Ground.phase }, { on := 5, ground := Ground.phase }, { on := 6, ground := Ground.phase }, { on := 7, ground := Ground.phase }, { on := 8, ground := Ground.phase }], guard := none }) rfl (fun K hK => ?_) AllReadyJ.nil
  go_simp
  refine hK.out _ _ (fun h => absurd h (by decide)) ?_
  clear hK K
  try simp only [Act.put, List.setIfInBounds_toArray, List.set_cons_zero, List.set_cons_succ]
  refine wpAnyJ_done (by kernel_rfl) ?_ _
  obtain ⟨w3, hw⟩ : ∃ X, X = w9.setCell ⟨g, 3, none⟩ (.slice (some ⟨g9, 0, none⟩) (l.length + 1) c9) := ⟨_, rfl⟩
  rw [← hw] at R3 M3 N3 ⊢
  clear hw CA FA
  clear R2 M2
  clear T2 C1 C2 NV1 NV2 N0
  go_wp2_with fail
  refine calls_sub (E2.out.trans (end_eq _ _)) HNE.out M3.out (fun h => end_any R3.out _) (by (intro a er e w' hE hp; have hp2 := hp; obtain ⟨q, hq1, -⟩ := hp; subst hq1; subst hE; exact ⟨rfl, hp2⟩)) ?_
  intro x4 s4 v4 w4 hq hr hv hR hm hM
  have E4 := hide hr
  have R4 := hide hR
  have M4 := hide hM
  have hsz4 : w3.heap.size ≤ w4.heap.size := hm.size
  have N4 := hide (N3.out.mvk hm hk0)
  have hgl4 := N3.out.lt
  subst hv
  clear hq hr hR hm hM
  clear E2 R3 M3 N3
  go_wp2_with fail
  go_end0
  have ER := E4.out
  subst ER
  exact ⟨_, rfl, ⟨rfl, N4.out⟩, R4.out, M4.out⟩
end Go.Proofs.YtmfoehaeejhlpaaGreatDoor

/-
  The reader: what begins with a name.
-/
namespace Go.Proofs.YtmfoehaeejhlpaaGreatDoor
open Go.RowKit Yn
set_option maxRecDepth 100000
theorem Nd.np_leaf {lo op a : Nat} {t : ByteArray} {n : Int} {w : World} {v : Value} {X : Nat → Prop} (hX : ∀ q, X q → lo ≤ q) (h : Nd X w (.mk op t n [] a) v) : ∃ g, v = .pointer (some ⟨g, 0, none⟩) ∧ Np lo w g op t n [] a := by
  rw [Nd] at h
  obtain ⟨g, vl, ps, rfl, hx, h2, h3, h4, h5⟩ := h
  rw [Nds] at h5
  subst h5
  refine ⟨g, rfl, hX g hx, vl, [], h2, h3, fun q e => ⟨hX q (h4 q e), ?_⟩, Nds.none⟩
  rintro rfl
  rcases h3.2 with ⟨rfl, -⟩ | ⟨q', cap, cur, rfl, -, h6, -⟩
  · simp [Value.ownBlock] at e
  · have e' : q' = q := Option.some.inj e
    subst e'
    rw [h2] at h6
    have := Option.some.inj h6
    injection this with _ hty
    exact absurd hty (by decide)
theorem nameNode_eq {ws : List ByteArray} {s s' : S} {x : Tree} (h : nameNode ws s = .ok x s') : x = .mk 31 (hd s).t 0 [] (hd s).a ∧ s' = nx s := by
  unfold nameNode fail at h
  split at h
  · cases h
    exact ⟨rfl, rfl⟩
  · cases h
/-- What is read of a name. -/
def namedS (ws : List ByteArray) (n : Nat) (s : S) : R Tree := (nameNode ws s).bind fun _ s1 =>
      if isAt s1 cOpen then (args ws n s1).bind fun l s2 => .ok (.mk 36 (hd s).t 0 l (hd s).a) s2
      else if isAt s1 cDot then (nameNode ws (nx s1)).bind fun f s2 => .ok (.mk 32 (hd s).t 0 [f] (hd s).a) s2
      else .ok (.mk 31 (hd s).t 0 [] (hd s).a) s1
set_option maxHeartbeats 8000000 in
theorem named_any {n : Nat} (hc : Ca n) {W : World} {B k : Nat} {ws : List ByteArray} {s : S} (hR : Rd W B k ws s) {r : R Tree} (hr : r = namedS ws n s) (hne : r ≠ .out) : Calls Tryz.prog 219 #[.pointer (some ⟨k, 0, none⟩)] W (Out (isTree W) W B k ws r) := by
  obtain ⟨i0, hi0, hz0, hz1, hz2⟩ := info_parts infoN
  have HC := hide hc
  have hk0 := hR.lt
  have H := hide hR
  have M0 := hide (Mv.refl W (fun j => j = k))
  have HNE := hide hne
  have HE := hide hr
  unfold namedS at HE
  clear hc hR hne hr
  go_enter Tryz.func219, Tryz.ntmps219
  go_wp2_with fail
  refine calls_sub HE.out HNE.out M0.out (fun h => nameNode_any H.out) (by (intro a er e w' hE hp; have hp2 := hp; obtain ⟨q, hq1, -⟩ := hp; subst hq1; subst hE; exact ⟨rfl, hp2⟩)) ?_
  intro x1 s1 v1 w1 hq hr hv hR hm hM
  have E1 := hide hr
  have R1 := hide hR
  have M1 := hide hM
  have hsz1 : W.heap.size ≤ w1.heap.size := hm.size
  have D1 := hide (nameNode_eq hq)
  obtain ⟨g1, rfl⟩ := Nd.ptr hv
  have T1 := hide (Nd.tight _ _ hv)
  clear hq hr hR hm hM hv
  clear HE H M0
  obtain ⟨hx, -⟩ := D1.out
  subst hx
  obtain ⟨g, hg, hN⟩ := Nd.np_leaf (lo := W.heap.size) (fun q hq => hq.1) T1.out
  cases hg
  have N1 := hide hN
  clear hN T1 D1
  go_wp2_with fail
  refine (isAt_any R1.out cOpen).mono ?_
  rintro e w2 ⟨rfl, hb⟩
  have R2 := hide (R1.out.later hb)
  have M2 := hide (M1.out.later hb)
  have N2 := hide (N1.out.later hb)
  clear hb
  clear R1 M1 N1
  cases b : isAt s1 cOpen with
  | true =>
    have he := E1.out
    rw [if_pos b] at he
    have E1' := hide he
    clear he b E1
    have c3 := N2.out.cells.1.1
    have f3 := N2.out.cells.2 0
    have ns : Np _ (w2.setCell ⟨g1, 0, none⟩ (.int .i64 36)) _ 36 _ _ _ _ ∧ Mv _ (w2.setCell ⟨g1, 0, none⟩ (.int .i64 36)) _ := N2.out.setOp 36
    have R3 := hide (R2.out.mv ns.2 (fun j (e : j = g1) => by have := R2.out.1; have := N2.out.1; omega))
    have M3 := hide (M2.out.trans ns.2 (fun j hj (e : j = g1) => by have := N2.out.1; omega))
    have N3 := hide ns.1
    obtain ⟨w3, hw⟩ : ∃ X, X = w2.setCell ⟨g1, 0, none⟩ (.int .i64 36) := ⟨_, rfl⟩
    rw [← hw] at R3 M3 N3
    have HW3 := hide hw
    clear hw ns
    clear R2 M2 N2
    go_wp2_with fail
    rw [← HW3.out]
    clear HW3 c3 f3
    refine calls_sub E1'.out HNE.out M3.out (fun h => HC.out _ _ _ _ _ R3.out h) (by (intro a er e w' hE hp; have hp2 := hp; obtain ⟨q, hq1, -⟩ := hp; subst hq1; subst hE; exact ⟨rfl, hp2⟩)) ?_
    intro x4 s4 v4 w4 hq hr hv hR hm hM
    have E4 := hide hr
    have R4 := hide hR
    have M4 := hide hM
    have hsz4 : w3.heap.size ≤ w4.heap.size := hm.size
    have N4 := hide (N3.out.mvk hm hk0)
    have hgl4 := N3.out.lt
    have T4 := hide hv
    clear hq hr hR hm hM hv
    clear E1' R3 M3 N3
    obtain ⟨ps5, ho, hv, hl⟩ := T4.out
    obtain ⟨ao5, cp5, rfl⟩ := own_len ho
    obtain ⟨ao8, c8, ps8, nv⟩ := N4.out.nv
    have c5 := nv.cell
    have f5 := N4.out.cells.2 3
    clear nv
    have ns := N4.out.setList ho (fun q e => by have := hv q e; have := N4.out.1; omega) (Nds.mono (fun q hq => ⟨by have := hq.1; have := N4.out.1; omega, by have := hq.1; omega, hq.2⟩) _ _ hl)
    have R5 := hide (R4.out.mv ns.2 (fun j (e : j = g1) => by have := R4.out.1; have := N4.out.1; omega))
    have M5 := hide (M4.out.trans ns.2 (fun j hj (e : j = g1) => by have := N4.out.1; omega))
    have N5 := hide ns.1
    obtain ⟨w5, hw⟩ : ∃ X, X = w4.setCell ⟨g1, 3, none⟩ (.slice ao5 x4.length cp5) := ⟨_, rfl⟩
    rw [← hw] at R5 M5 N5
    have HW5 := hide hw
    clear hw ns ho hv hl
    clear R4 M4 N4
    go_wp2_with fail
    rw [← HW5.out]
    clear HW5 c5 f5
    go_ret
    have ER := E4.out
    subst ER
    exact ⟨_, rfl, N5.out.done, R5.out, M5.out⟩
  | false =>
    have he := E1.out
    rw [if_neg (by rw [b]; decide)] at he
    have E1' := hide he
    clear he b E1
    go_wp2_with fail
    have JT := hide (takeIf_any R2.out cDot (by decide))
    cases b : isAt s1 cDot with
    | false =>
      rw [b] at JT
      simp only [Bool.false_eq_true, if_false] at JT
      have he := E1'.out
      rw [if_neg (by rw [b]; decide)] at he
      have E2' := hide he
      clear he b E1'
      refine (JT.out).mono ?_
      rintro e w3 ⟨rfl, hR, hm⟩
      have R3 := hide hR
      have M3 := hide (M2.out.trans hm (fun _ _ e => e))
      have N3 := hide (N2.out.mvk hm hk0)
      clear hR hm
      clear R2 M2 N2
      go_wp2_with fail
      go_ret
      have ER := E2'.out
      subst ER
      exact ⟨_, rfl, N3.out.done, R3.out, M3.out⟩
    | true =>
      rw [b] at JT
      simp only [if_true] at JT
      have he := E1'.out
      rw [if_pos b] at he
      have E2' := hide he
      clear he b E1'
      refine (JT.out).mono ?_
      rintro e w3 ⟨rfl, hR, hm⟩
      have R3 := hide hR
      have M3 := hide (M2.out.trans hm (fun _ _ e => e))
      have N3 := hide (N2.out.mvk hm hk0)
      clear hR hm
      clear R2 M2 N2
      have c4 := N3.out.cells.1.1
      have f4 := N3.out.cells.2 0
      have ns : Np _ (w3.setCell ⟨g1, 0, none⟩ (.int .i64 32)) _ 32 _ _ _ _ ∧ Mv _ (w3.setCell ⟨g1, 0, none⟩ (.int .i64 32)) _ := N3.out.setOp 32
      have R4 := hide (R3.out.mv ns.2 (fun j (e : j = g1) => by have := R3.out.1; have := N3.out.1; omega))
      have M4 := hide (M3.out.trans ns.2 (fun j hj (e : j = g1) => by have := N3.out.1; omega))
      have N4 := hide ns.1
      obtain ⟨w4, hw⟩ : ∃ X, X = w3.setCell ⟨g1, 0, none⟩ (.int .i64 32) := ⟨_, rfl⟩
      rw [← hw] at R4 M4 N4
      have HW4 := hide hw
      clear hw ns
      clear R3 M3 N3
      go_wp2_with fail
      rw [← HW4.out]
      clear HW4 c4 f4
      obtain ⟨l, hl0⟩ : ∃ l, l = ([] : List Tree) := ⟨_, rfl⟩
      rw [← hl0] at N4
      have hl : l.length ≤ 5 := by rw [hl0]; simp
      have HL0 := hide hl0
      clear hl0
      have nd := N4.out.later (below_drew w4)
      obtain ⟨ao, c7, ps7, nv⟩ := nd.nv
      have NV5 := hide nv
      have C5 := nv.cell
      clear nd nv
      go_upto_region 7 with fail
      refine wp_region_late (J := fun i => i != 11) (S := fun Wq => Wq.cell? ⟨g1, 3, none⟩ = some (.slice ao l.length c7)) (by kernel_rfl) C5 (fun hHeld => ?_)
      refine' wpAnyJ_takeW (i := 0) (oi := { dst := some 23, op := Op.move (Operand.tmp 3), type := 23, pos := "expression.go:105", after := #[], guard := none }) (v := _) rfl (by kernel_rfl) (by kernel_rfl) (by kernel_rfl) (fun _ _ _ h => h) (Or.inl ⟨by rfl, ?hyNa1⟩) ?reNa1
      case hyNa1 => (intro W hSw; (try dsimp only at hSw); go_simp; try with_reducible rfl)
      try simp only [Act.put, List.setIfInBounds_toArray, List.set_cons_zero, List.set_cons_succ]
      refine' wpAnyJ_takeW (i := 1) (oi := { dst := some 24, op := Op.move (Operand.tmp 3), type := 23, pos := "expression.go:105", after := #[], guard := none }) (v := _) rfl (by kernel_rfl) (by kernel_rfl) (by kernel_rfl) (fun _ _ _ h => h) (Or.inl ⟨by rfl, ?hyNa2⟩) ?reNa2
      case hyNa2 => (intro W hSw; (try dsimp only at hSw); go_simp; try with_reducible rfl)
      try simp only [Act.put, List.setIfInBounds_toArray, List.set_cons_zero, List.set_cons_succ]
      refine' wpAnyJ_takeW (i := 2) (oi := { dst := some 25, op := Op.nilCheck (Operand.tmp 24), type := 0, pos := "expression.go:105", after := #[{ on := 1, ground := Ground.data }], guard := none }) (v := _) rfl (by kernel_rfl) (by kernel_rfl) (by kernel_rfl) (fun _ _ _ h => h) (Or.inl ⟨by rfl, ?hyNa3⟩) ?reNa3
      case hyNa3 => (intro W hSw; (try dsimp only at hSw); go_simp; try with_reducible rfl)
      try simp only [Act.put, List.setIfInBounds_toArray, List.set_cons_zero, List.set_cons_succ]
      refine' wpAnyJ_takeW (i := 3) (oi := { dst := some 26, op := Op.fieldAddr 51 (Operand.tmp 25) 3, type := 0, pos := "expression.go:105", after := #[{ on := 2, ground := Ground.data }], guard := none }) (v := _) rfl (by kernel_rfl) (by kernel_rfl) (by kernel_rfl) (fun _ _ _ h => h) (Or.inl ⟨by rfl, ?hyNa4⟩) ?reNa4
      case hyNa4 => (intro W hSw; (try dsimp only at hSw); go_simp; try with_reducible rfl)
      try simp only [Act.put, List.setIfInBounds_toArray, List.set_cons_zero, List.set_cons_succ]
      refine' wpAnyJ_take (i := 4) (oi := { dst := some 27, op := Op.load 49 (Operand.tmp 26), type := 49, pos := "expression.go:105", after := #[{ on := 3, ground := Ground.data }], guard := none }) (v := _) rfl (by kernel_rfl) (by kernel_rfl) (by kernel_rfl) (by kernel_rfl) (fun _ _ _ h => h) (Or.inl ⟨by rfl, ?hyNa5⟩) (by assumption) ?reNa5
      case hyNa5 => (intro W hSw; (try dsimp only at hSw); go_simp; try with_reducible rfl)
      try simp only [Act.put, List.setIfInBounds_toArray, List.set_cons_zero, List.set_cons_succ]
      refine' wpAnyJ_takeW (i := 5) (oi := { dst := some 28, op := Op.move (Operand.tmp 0), type := 56, pos := "expression.go:105", after := #[], guard := none }) (v := _) rfl (by kernel_rfl) (by kernel_rfl) (by kernel_rfl) (fun _ _ _ h => h) (Or.inl ⟨by rfl, ?hyNa6⟩) ?reNa6
      case hyNa6 => (intro W hSw; (try dsimp only at hSw); go_simp; try with_reducible rfl)
      try simp only [Act.put, List.setIfInBounds_toArray, List.set_cons_zero, List.set_cons_succ]
      refine wpAnyJ_ready (rs := [6]) (by kernel_rfl) (by simp) ?_
      refine AllReadyJ.cons (o := { dst := some 29, op := Op.call { callee := Callee.value (Operand.func 178), args := #[Operand.tmp 28], argTypes := #[56] }, type := 23, pos := "expression.go:105", after := #[{ on := 5, ground := Ground.data }], guard := none }) rfl (fun K hK => ?_) AllReadyJ.nil
      go_simp
      go_at_call 178
      refine calls_sub E2'.out HNE.out (M4.out.later (below_drew w4)) (fun h => nameNode_any (R4.out.later (below_drew w4))) (by (intro a er e w' hE hp; have hp2 := hp; obtain ⟨q, hq1, -⟩ := hp; subst hq1; subst hE; exact ⟨rfl, hp2⟩)) ?_
      intro x6 s6 v6 w6 hq hr hv hR hm hM
      have E6 := hide hr
      have R6 := hide hR
      have M6 := hide hM
      have hsz6 : w4.heap.size ≤ w6.heap.size := hm.size
      obtain ⟨g6, rfl⟩ := Nd.ptr hv
      have T6 := hide (Nd.tight _ _ hv)
      have NV6 := hide (NV5.out.mvk hm hk0)
      clear hq hr hR hm hM hv
      clear E2' R4 M4
      have C6 := NV6.out.cell
      have CB := (NV6.out.later (below_alloc w6 (.cells #[.pointer (some ⟨g6, 0, none⟩)] 23))).cell
      have hcp := NV6.out.cap
      clear hHeld
      go_simp
      refine hK.out _ _ (fun _ _ => C6) ?_
      clear hK K
      try simp only [Act.put, List.setIfInBounds_toArray, List.set_cons_zero, List.set_cons_succ]
      refine wpAnyJ_ready (rs := [7]) (by kernel_rfl) (by simp) ?_
      refine AllReadyJ.cons (o := { dst := some 30, op := Op.buildSlice 49 1 #[(0, Operand.tmp 29)], type := 49, pos := "expression.go:105", after := #[{ on := 6, ground := Ground.data }], guard := none }) rfl (fun K hK => ?_) AllReadyJ.nil
      go_simp
      refine hK.out _ _ (fun _ _ => CB) ?_
      clear hK K
      try simp only [Act.put, List.setIfInBounds_toArray, List.set_cons_zero, List.set_cons_succ]
      refine wpAnyJ_ready (rs := [8]) (by kernel_rfl) (by simp) ?_
      refine AllReadyJ.cons (o := { dst := some 31, op := Op.call { callee := Callee.builtin Builtin.append, args := #[Operand.tmp 27, Operand.tmp 30], argTypes := #[49, 49] }, type := 49, pos := "expression.go:105", after := #[{ on := 4, ground := Ground.data }, { on := 7, ground := Ground.data }, { on := 6, ground := Ground.chain }], guard := none }) rfl (fun K hK => ?_) AllReadyJ.nil
      refine step_append_lies _ rfl (.tmp 27) (.tmp 30) 49 rfl 0 23 i0 (.pointer none) 1 8 und49 hi0 hz0 hz1 hz2 rfl (by decide) (.slice ao l.length c7) l.length (ps7) (by simp [Act.eval]) (NV6.out.own.alloc _) ⟨w6.heap.size, 0, none⟩ 1 1 [.pointer (some ⟨g6, 0, none⟩)] (by simp [Act.eval]) rfl (by intro j u hj; match j, hj with | 0, hj => simp at hj; subst hj; simp [Addr.add]) (by intro u hu; simp at hu; subst hu; rfl) (by omega) (by unfold maxLen; omega) (by omega) (Nat.zero_le _) _ rfl ?_
      intro g9 c9 w9 ho9 hg9 ha9 _
      have hx : Nds (fun q => W.heap.size ≤ q ∧ q ≠ g1 ∧ (Value.slice ao l.length c7).ownBlock ≠ some q) w6 [x6] [.pointer (some ⟨g6, 0, none⟩)] := by
        rw [Nds]
        refine ⟨_, _, rfl, Nd.mono (fun q hq => NV5.out.old (by have : w4.heap.size ≤ q := hq.1; omega)) _ _ T6.out, ?_⟩
        exact Nds.none
      have np := Nv.push NV6.out hx (by simp) ho9 hg9 ha9
      have CA := np.2.1
      have FA := np.2.2
      have N7 := hide np.1.1
      have R7 := hide (R6.out.mv np.1.2 (fun j (e : W.heap.size ≤ j) => by have := R6.out.1; omega))
      have M7 := hide (M6.out.trans np.1.2 (fun j hj (e : W.heap.size ≤ j) => by omega))
      clear np hx ho9 hg9 ha9 CB
      refine hK.out _ _ (fun _ _ => CA) ?_
      clear hK K
      try simp only [Act.put, List.setIfInBounds_toArray, List.set_cons_zero, List.set_cons_succ]
      refine' wpAnyJ_takeW (i := 9) (oi := { dst := some 32, op := Op.nilCheck (Operand.tmp 23), type := 0, pos := "expression.go:105", after := #[{ on := 0, ground := Ground.data }, { on := 0, ground := Ground.phase }, { on := 1, ground := Ground.phase }, { on := 2, ground := Ground.phase }, { on := 3, ground := Ground.phase }, { on := 4, ground := Ground.phase }, { on := 5, ground := Ground.phase }, { on := 6, ground := Ground.phase }, { on := 7, ground := Ground.phase }, { on := 8, ground := Ground.phase }], guard := none }) (v := _) rfl (by kernel_rfl) (by kernel_rfl) (by kernel_rfl) (fun _ _ _ h => h) (Or.inl ⟨by rfl, ?hyNa7⟩) ?reNa7
      case hyNa7 => (intro W hSw; (try dsimp only at hSw); go_simp; try with_reducible rfl)
      try simp only [Act.put, List.setIfInBounds_toArray, List.set_cons_zero, List.set_cons_succ]
      refine' wpAnyJ_takeW (i := 10) (oi := { dst := some 33, op := Op.fieldAddr 51 (Operand.tmp 32) 3, type := 0, pos := "expression.go:105", after := #[{ on := 9, ground := Ground.data }, { on := 0, ground := Ground.phase }, { on := 1, ground := Ground.phase }, { on := 2, ground := Ground.phase }, { on := 3, ground := Ground.phase }, { on := 4, ground := Ground.phase }, { on := 5, ground := Ground.phase }, { on := 6, ground := Ground.phase }, { on := 7, ground := Ground.phase }, { on := 8, ground := Ground.phase }], guard := none }) (v := _) rfl (by kernel_rfl) (by kernel_rfl) (by kernel_rfl) (fun _ _ _ h => h) (Or.inl ⟨by rfl, ?hyNa8⟩) ?reNa8
      case hyNa8 => (intro W hSw; (try dsimp only at hSw); go_simp; try with_reducible rfl)
      try simp only [Act.put, List.setIfInBounds_toArray, List.set_cons_zero, List.set_cons_succ]
      refine wpAnyJ_ready (rs := [11]) (by kernel_rfl) (by simp) ?_
      refine AllReadyJ.cons (o := { dst := none, op := Op.store 49 (Operand.tmp 33) (Operand.tmp 31), type := 0, pos := "expression.go:105", after := #[{ on := 10, ground := Ground.data }, { on := 8, ground := Ground.data }, { on := 8, ground := Ground.chain }, { on := 0, ground := Ground.phase }, { on := 1, ground := Ground.phase }, { on := 2, ground := Ground.phase }, { on := 3, ground := Ground.phase }, { on := 4, ground := Ground.phase }, { on := 5, ground := Ground.phase }, { on := 6, ground := Ground.phase }, { on := 7, ground := Ground.phase }, { on := 8, ground := Ground.phase }], guard := none }) rfl (fun K hK => ?_) AllReadyJ.nil
      go_simp
      refine hK.out _ _ (fun h => absurd h (by decide)) ?_
      clear hK K
      try simp only [Act.put, List.setIfInBounds_toArray, List.set_cons_zero, List.set_cons_succ]
      refine wpAnyJ_done (by kernel_rfl) ?_ _
      obtain ⟨w7, hw⟩ : ∃ X, X = w9.setCell ⟨g1, 3, none⟩ (.slice (some ⟨g9, 0, none⟩) (l.length + 1) c9) := ⟨_, rfl⟩
      rw [← hw] at R7 M7 N7 ⊢
      clear hw CA FA
      clear R6 M6
      clear T6 C5 C6 NV5 NV6 N4
      go_wp2_with fail
      go_ret
      have ER := E6.out
      subst ER
      have e0 := HL0.out
      subst e0
      exact ⟨_, rfl, N7.out.done, R7.out, M7.out⟩
end Go.Proofs.YtmfoehaeejhlpaaGreatDoor
