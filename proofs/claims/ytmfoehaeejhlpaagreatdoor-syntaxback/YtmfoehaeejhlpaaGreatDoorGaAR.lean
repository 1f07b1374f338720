import Derived.Test.YtmfoehaeejhlpaaGreatDoorGaAQ
/-
  The reader: programs.
-/
namespace Go.Proofs.YtmfoehaeejhlpaaGreatDoor
open Go.RowKit Yn
set_option maxRecDepth 100000
def Csy (n : Nat) : Prop := ∀ (W : World) (B k : Nat) (ws : List ByteArray) (s : S), Rd W B k ws s → systemS ws n s ≠ .out → Calls Tryz.prog 106 #[.pointer (some ⟨k, 0, none⟩)] W (Out (isTree W) W B k ws (systemS ws n s))
def Cmb (n : Nat) : Prop := ∀ (W : World) (B k : Nat) (ws : List ByteArray) (s : S), Rd W B k ws s → memberS ws n s ≠ .out → Calls Tryz.prog 78 #[.pointer (some ⟨k, 0, none⟩)] W (Out (isTree W) W B k ws (memberS ws n s))
set_option maxHeartbeats 8000000 in
theorem member_any {n : Nat} (hn : n ≤ 100000) (hb : Cbk n) (hy : Csy n) {W : World} {B k : Nat} {ws : List ByteArray} {s : S} (hR : Rd W B k ws s) {r : R Tree} (hr : r = memberS ws n s) (hne : r ≠ .out) : Calls Tryz.prog 78 #[.pointer (some ⟨k, 0, none⟩)] W (Out (isTree W) W B k ws r) := by
  obtain ⟨i0, hi0, hz0, hz1, hz2⟩ := info_parts infoN
  have hk0 := hR.lt
  have H := hide hR
  have M0 := hide (Mv.refl W (fun j => j = k))
  have HNE := hide hne
  have HE := hide hr
  unfold memberS at HE
  have HB := hide hb
  have HY := hide hy
  clear hb hy
  clear hR hne hr
  go_enter Tryz.func78, Tryz.ntmps78
  go_wp2_with fail
  refine (isAt_any H.out wSystem).mono ?_
  rintro e w1 ⟨rfl, hb⟩
  have R1 := hide (H.out.later hb)
  have M1 := hide (M0.out.later hb)
  clear hb
  clear H M0
  cases b : isAt s wSystem with
  | true =>
    have he := HE.out
    rw [if_pos b] at he
    have HF7 := hide he
    clear he b HE
    go_wp2_with fail
    have er := HF7.out
    have HQ := hide (HY.out _ _ _ _ _ R1.out (by rw [← er]; exact HNE.out))
    rw [← er] at HQ
    clear er
    have JJ := hide (HQ.out)
    obtain ⟨rr, hrr⟩ : ∃ rr, rr = r := ⟨_, rfl⟩
    refine JJ.out.mono ?_
    intro e w9 ho
    cases hx : r with
    | out => exact absurd hx HNE.out
    | no a er =>
      rw [hx] at ho
      have hp2 := Pn.from ho M1.out
      obtain ⟨q, hq1, -⟩ := ho
      subst hq1
      subst hx
      exact ⟨rfl, hp2⟩
    | ok x sx =>
      rw [hx] at ho
      obtain ⟨v, rfl, ht, hr9, hm9⟩ := ho
      obtain ⟨g9, rfl⟩ := Nd.ptr ht
      have T9 : Hid (Nd (fun q => W.heap.size ≤ q) w9 x (.pointer (some ⟨g9, 0, none⟩))) := Nd.mono (fun q (hq : w1.heap.size ≤ q) => by have := M1.out.size; show W.heap.size ≤ q; omega) _ _ ht
      have R9 := hide hr9
      have M9 := hide (M1.out.trans hm9 (fun _ _ e => e))
      have HX := hide hx
      clear ht hr9 hm9 hx JJ hrr
      go_wp2_with fail
      go_ret
      have hx := HX.out
      subst hx
      exact ⟨_, rfl, T9.out, R9.out, M9.out⟩
  | false =>
    have he := HE.out
    rw [if_neg (by rw [b]; decide)] at he
    have HF8 := hide he
    clear he b HE
    go_wp2_with fail
    have JJ := hide (func_any hn HB.out R1.out HF8.out HNE.out)
    obtain ⟨rr, hrr⟩ : ∃ rr, rr = r := ⟨_, rfl⟩
    refine JJ.out.mono ?_
    intro e w9 ho
    cases hx : r with
    | out => exact absurd hx HNE.out
    | no a er =>
      rw [hx] at ho
      have hp2 := Pn.from ho M1.out
      obtain ⟨q, hq1, -⟩ := ho
      subst hq1
      subst hx
      exact ⟨rfl, hp2⟩
    | ok x sx =>
      rw [hx] at ho
      obtain ⟨v, rfl, ht, hr9, hm9⟩ := ho
      obtain ⟨g9, rfl⟩ := Nd.ptr ht
      have T9 : Hid (Nd (fun q => W.heap.size ≤ q) w9 x (.pointer (some ⟨g9, 0, none⟩))) := Nd.mono (fun q (hq : w1.heap.size ≤ q) => by have := M1.out.size; show W.heap.size ≤ q; omega) _ _ ht
      have R9 := hide hr9
      have M9 := hide (M1.out.trans hm9 (fun _ _ e => e))
      have HX := hide hx
      clear ht hr9 hm9 hx JJ hrr
      go_wp2_with fail
      go_ret
      have hx := HX.out
      subst hx
      exact ⟨_, rfl, T9.out, R9.out, M9.out⟩
set_option maxHeartbeats 8000000 in
theorem prog_any {n : Nat} (hn : n ≤ 100000) (hb : ∀ m, m ≤ n → Cmb m) {W : World} {B k : Nat} {ws : List ByteArray} {s : S} (hR : Rd W B k ws s) {r : R Tree} (hr : r = progS ws n [] s) (hne : r ≠ .out) : Calls Tryz.prog 44 #[.pointer (some ⟨k, 0, none⟩)] W (Out (isTree W) W B k ws r) := by
  obtain ⟨i0, hi0, hz0, hz1, hz2⟩ := info_parts infoN
  have hk0 := hR.lt
  have H := hide hR
  have M0 := hide (Mv.refl W (fun j => j = k))
  have HNE := hide hne
  have HE := hide hr
  have HB := hide hb
  have f0 := fld0
  clear hb
  clear hR hne hr
  obtain ⟨w1, hw1⟩ : ∃ X, X = W.alloc (.cells #[.int .i64 1, .string (bs []), .int .i64 0, .slice none 0 0, .int .i64 0] 51) := ⟨_, rfl⟩
  have b1 : Below W.heap.size W w1 := hw1 ▸ below_alloc W _
  have R1 := hide (H.out.later b1)
  have M1 := hide (M0.out.later b1)
  have N1 : Hid (Np W.heap.size w1 W.heap.size 1 (bs []) 0 [] 0) := Np.fresh (Nat.le_refl _) (hw1 ▸ heap_alloc_new W _)
  have HW1 := hide hw1
  clear b1 hw1
  go_enter Tryz.func44, Tryz.ntmps44
  go_wp2_with fail
  unfold bs at HW1
  rw [← HW1.out]
  clear HW1 M0
  obtain ⟨g, hg⟩ : ∃ q, q = W.heap.size := ⟨_, rfl⟩
  have hlo : W.heap.size ≤ g := by omega
  have N1' : Hid (Np W.heap.size w1 g 1 (bs []) 0 [] 0) := by rw [hg]; exact N1.out
  rw [← hg]
  clear N1 hg
  go_loopg [] n (fun G Wr => ∃ (m : Nat) (l : List Tree) (u : S), G = m ∧ m ≤ n ∧ l.length + m ≤ n ∧ Hid (r = progS ws m l u) ∧ Hid (Np W.heap.size Wr g 1 (bs []) 0 l 0) ∧ Hid (Rd Wr B k ws u) ∧ Hid (Mv W Wr (fun j => j = k)))
  case atStart => exact ⟨n, [], s, rfl, Nat.le_refl _, by simp, HE, N1', R1, M1⟩
  case round =>
    clear HE N1' R1 M1
    obtain ⟨m0, l, u, hG, hmn, hlm, E9, N9, R9, M9⟩ := hrel
    obtain ⟨m, rfl⟩ : ∃ m', m0 = m' + 1 := by
      cases m0 with
      | zero => exact absurd (by rw [E9.out, progS]) HNE.out
      | succ m' => exact ⟨m', rfl⟩
    have he := E9.out
    rw [progS] at he
    have E8 := hide he
    have JN := hide (now_any R9.out)
    unfold tokV at JN
    clear he E9
    have hz9 := M9.out.size
    go_wp2_with fail
    refine (JN.out).mono ?_
    rintro e w21 ⟨rfl, hb⟩
    have R21 := hide (R9.out.later hb)
    have M21 := hide (M9.out.later hb)
    have N21 := hide (N9.out.later hb)
    clear hb
    clear R9 M9 N9
    clear JN
    by_cases b : (hd u).k = 0
    · have t1 : (((hd u).k : Int) == 0) = true := by rw [b]; rfl
      have he := E8.out
      rw [if_pos b] at he
      have HF9 := hide he
      clear he b E8
      go_wp2_with fail
      go_ret
      have ER := HF9.out
      subst ER
      exact ⟨_, rfl, N21.out.done, R21.out, M21.out⟩
    · have t1 : (((hd u).k : Int) == 0) = false := by rw [beq_eq_false_iff_ne]; omega
      have he := E8.out
      rw [if_neg b] at he
      have HF10 := hide he
      clear he b E8
      have hl5 : l.length ≤ 1000000 := by omega
      have hszA22 := M21.out.size
      have nd := N21.out.later (below_drew w21)
      obtain ⟨ao, c7, ps7, nv⟩ := nd.nv
      have NV22 := hide nv
      have C22 := nv.cell
      clear nd nv
      go_upto_region 3 with fail
      refine wp_region_late (J := fun i => i != 11) (S := fun Wq => Wq.cell? ⟨g, 3, none⟩ = some (.slice ao l.length c7)) (by kernel_rfl) C22 (fun hHeld => ?_)
      refine' wpAnyJ_takeW (i := 0) (oi := { dst := some 10, op := Op.move (Operand.tmp 3), type := 23, pos := "read.go:109", after := #[], guard := none }) (v := _) rfl (by kernel_rfl) (by kernel_rfl) (by kernel_rfl) (fun _ _ _ h => h) (Or.inl ⟨by rfl, ?hyPg1⟩) ?rePg1
      case hyPg1 => (intro W hSw; (try dsimp only at hSw); go_simp; try with_reducible rfl)
      try simp only [Act.put, List.setIfInBounds_toArray, List.set_cons_zero, List.set_cons_succ]
      refine' wpAnyJ_takeW (i := 1) (oi := { dst := some 11, op := Op.move (Operand.tmp 3), type := 23, pos := "read.go:109", after := #[], guard := none }) (v := _) rfl (by kernel_rfl) (by kernel_rfl) (by kernel_rfl) (fun _ _ _ h => h) (Or.inl ⟨by rfl, ?hyPg2⟩) ?rePg2
      case hyPg2 => (intro W hSw; (try dsimp only at hSw); go_simp; try with_reducible rfl)
      try simp only [Act.put, List.setIfInBounds_toArray, List.set_cons_zero, List.set_cons_succ]
      refine' wpAnyJ_takeW (i := 2) (oi := { dst := some 12, op := Op.nilCheck (Operand.tmp 11), type := 0, pos := "read.go:109", after := #[{ on := 1, ground := Ground.data }], guard := none }) (v := _) rfl (by kernel_rfl) (by kernel_rfl) (by kernel_rfl) (fun _ _ _ h => h) (Or.inl ⟨by rfl, ?hyPg3⟩) ?rePg3
      case hyPg3 => (intro W hSw; (try dsimp only at hSw); go_simp; try with_reducible rfl)
      try simp only [Act.put, List.setIfInBounds_toArray, List.set_cons_zero, List.set_cons_succ]
      refine' wpAnyJ_takeW (i := 3) (oi := { dst := some 13, op := Op.fieldAddr 51 (Operand.tmp 12) 3, type := 0, pos := "read.go:109", after := #[{ on := 2, ground := Ground.data }], guard := none }) (v := _) rfl (by kernel_rfl) (by kernel_rfl) (by kernel_rfl) (fun _ _ _ h => h) (Or.inl ⟨by rfl, ?hyPg4⟩) ?rePg4
      case hyPg4 => (intro W hSw; (try dsimp only at hSw); go_simp; try with_reducible rfl)
      try simp only [Act.put, List.setIfInBounds_toArray, List.set_cons_zero, List.set_cons_succ]
      refine' wpAnyJ_take (i := 4) (oi := { dst := some 14, op := Op.load 49 (Operand.tmp 13), type := 49, pos := "read.go:109", after := #[{ on := 3, ground := Ground.data }], guard := none }) (v := _) rfl (by kernel_rfl) (by kernel_rfl) (by kernel_rfl) (by kernel_rfl) (fun _ _ _ h => h) (Or.inl ⟨by rfl, ?hyPg5⟩) (by assumption) ?rePg5
      case hyPg5 => (intro W hSw; (try dsimp only at hSw); go_simp; try with_reducible rfl)
      try simp only [Act.put, List.setIfInBounds_toArray, List.set_cons_zero, List.set_cons_succ]
      refine' wpAnyJ_takeW (i := 5) (oi := { dst := some 15, op := Op.move (Operand.tmp 0), type := 56, pos := "read.go:109", after := #[], guard := none }) (v := _) rfl (by kernel_rfl) (by kernel_rfl) (by kernel_rfl) (fun _ _ _ h => h) (Or.inl ⟨by rfl, ?hyPg6⟩) ?rePg6
      case hyPg6 => (intro W hSw; (try dsimp only at hSw); go_simp; try with_reducible rfl)
      try simp only [Act.put, List.setIfInBounds_toArray, List.set_cons_zero, List.set_cons_succ]
      refine wpAnyJ_ready (rs := [6]) (by kernel_rfl) (by simp) ?_
      refine AllReadyJ.cons (o := { dst := some 16, op := Op.call { callee := Callee.value (Operand.func 78), args := #[Operand.tmp 15], argTypes := #[56] }, type := 23, pos := "read.go:109", after := #[{ on := 5, ground := Ground.data }], guard := none }) rfl (fun K hK => ?_) AllReadyJ.nil
      go_simp
      go_at_call 78
      refine calls_sub HF10.out HNE.out (M21.out.later (below_drew w21)) (fun h => (HB.out m (by omega)) _ _ _ _ _ (R21.out.later (below_drew w21)) h) (by (intro a er e w' hE hp; have hp2 := hp; obtain ⟨q, hq1, -⟩ := hp; subst hq1; subst hE; exact ⟨rfl, hp2⟩)) ?_
      intro x23 s23 v23 w23 hq hr hv hR hm hM
      have E23 := hide hr
      have R23 := hide hR
      have M23 := hide hM
      have hsz23 : w21.heap.size ≤ w23.heap.size := hm.size
      obtain ⟨g23, rfl⟩ := Nd.ptr hv
      have T23 := hide (Nd.tight _ _ hv)
      have NV23 := hide (NV22.out.mvk hm hk0)
      clear hq hr hR hm hM hv
      clear HF10 R21 M21
      have C23 := NV23.out.cell
      have CB := (NV23.out.later (below_alloc w23 (.cells #[.pointer (some ⟨g23, 0, none⟩)] 23))).cell
      have hcp := NV23.out.cap
      clear hHeld
      go_simp
      refine hK.out _ _ (fun _ _ => C23) ?_
      clear hK K
      try simp only [Act.put, List.setIfInBounds_toArray, List.set_cons_zero, List.set_cons_succ]
      refine wpAnyJ_ready (rs := [7]) (by kernel_rfl) (by simp) ?_
      refine AllReadyJ.cons (o := { dst := some 17, op := Op.buildSlice 49 1 #[(0, Operand.tmp 16)], type := 49, pos := "read.go:109", after := #[{ on := 6, ground := Ground.data }], guard := none }) rfl (fun K hK => ?_) AllReadyJ.nil
      go_simp
      refine hK.out _ _ (fun _ _ => CB) ?_
      clear hK K
      try simp only [Act.put, List.setIfInBounds_toArray, List.set_cons_zero, List.set_cons_succ]
      refine wpAnyJ_ready (rs := [8]) (by kernel_rfl) (by simp) ?_
      refine AllReadyJ.cons (o := { dst := some 18, op := Op.call { callee := Callee.builtin Builtin.append, args := #[Operand.tmp 14, Operand.tmp 17], argTypes := #[49, 49] }, type := 49, pos := "read.go:109", after := #[{ on := 4, ground := Ground.data }, { on := 7, ground := Ground.data }, { on := 6, ground := Ground.chain }], guard := none }) rfl (fun K hK => ?_) AllReadyJ.nil
      refine step_append_lies _ rfl (.tmp 14) (.tmp 17) 49 rfl 0 23 i0 (.pointer none) 1 8 und49 hi0 hz0 hz1 hz2 rfl (by decide) (.slice ao l.length c7) l.length (ps7) (by simp [Act.eval]) (NV23.out.own.alloc _) ⟨w23.heap.size, 0, none⟩ 1 1 [.pointer (some ⟨g23, 0, none⟩)] (by simp [Act.eval]) rfl (by intro j u hj; match j, hj with | 0, hj => simp at hj; subst hj; simp [Addr.add]) (by intro u hu; simp at hu; subst hu; rfl) (by omega) (by unfold maxLen; omega) (by omega) (Nat.zero_le _) _ rfl ?_
      intro gZ cZ wZ ho9 hg9 ha9 _
      have hx : Nds (fun q => W.heap.size ≤ q ∧ q ≠ g ∧ (Value.slice ao l.length c7).ownBlock ≠ some q) w23 [x23] [.pointer (some ⟨g23, 0, none⟩)] := by
        rw [Nds]
        refine ⟨_, _, rfl, Nd.mono (fun q hq => NV22.out.old (show w21.heap.size ≤ q by have : w21.heap.size ≤ q := hq.1; omega)) _ _ T23.out, ?_⟩
        exact Nds.none
      have np := Nv.push NV23.out hx (by simp) ho9 hg9 ha9
      have CA := np.2.1
      have FA := np.2.2
      have N24 := hide np.1.1
      have R24 := hide (R23.out.mv np.1.2 (fun j (e : W.heap.size ≤ j) => by have := R23.out.1; omega))
      have M24 := hide (M23.out.trans np.1.2 (fun j hj (e : W.heap.size ≤ j) => by omega))
      clear np hx ho9 hg9 ha9 CB
      refine hK.out _ _ (fun _ _ => CA) ?_
      clear hK K
      try simp only [Act.put, List.setIfInBounds_toArray, List.set_cons_zero, List.set_cons_succ]
      refine' wpAnyJ_takeW (i := 9) (oi := { dst := some 19, op := Op.nilCheck (Operand.tmp 10), type := 0, pos := "read.go:109", after := #[{ on := 0, ground := Ground.data }, { on := 0, ground := Ground.phase }, { on := 1, ground := Ground.phase }, { on := 2, ground := Ground.phase }, { on := 3, ground := Ground.phase }, { on := 4, ground := Ground.phase }, { on := 5, ground := Ground.phase }, { on := 6, ground := Ground.phase }, { on := 7, ground := Ground.phase }, { on := 8, ground := Ground.phase }], guard := none }) (v := _) rfl (by kernel_rfl) (by kernel_rfl) (by kernel_rfl) (fun _ _ _ h => h) (Or.inl ⟨by rfl, ?hyPg7⟩) ?rePg7
      case hyPg7 => (intro W hSw; (try dsimp only at hSw); go_simp; try with_reducible rfl)
      try simp only [Act.put, List.setIfInBounds_toArray, List.set_cons_zero, List.set_cons_succ]
      refine' wpAnyJ_takeW (i := 10) (oi := { dst := some 20, op := Op.fieldAddr 51 (Operand.tmp 19) 3, type := 0, pos := "read.go:109", after := #[{ on := 9, ground := Ground.data }, { on := 0, ground := Ground.phase }, { on := 1, ground := Ground.phase }, { on := 2, ground := Ground.phase }, { on := 3, ground := Ground.phase }, { on := 4, ground := Ground.phase }, { on := 5, ground := Ground.phase }, { on := 6, ground := Ground.phase }, { on := 7, ground := Ground.phase }, { on := 8, ground := Ground.phase }], guard := none }) (v := _) rfl (by kernel_rfl) (by kernel_rfl) (by kernel_rfl) (fun _ _ _ h => h) (Or.inl ⟨by rfl, ?hyPg8⟩) ?rePg8
      case hyPg8 => (intro W hSw; (try dsimp only at hSw); go_simp; try with_reducible rfl)
      try simp only [Act.put, List.setIfInBounds_toArray, List.set_cons_zero, List.set_cons_succ]
      refine wpAnyJ_ready (rs := [11]) (by kernel_rfl) (by simp) ?_
      refine AllReadyJ.cons (o := { dst := none, op := Op.store 49 (Operand.tmp 20) (Operand.tmp 18), type := 0, pos := "read.go:109", after := #[{ on := 10, ground := Ground.data }, { on := 8, ground := Ground.data }, { on := 8, ground := Ground.chain }, { on := 0, ground := Ground.phase }, { on := 1, ground := Ground.phase }, { on := 2, ground := Ground.phase }, { on := 3, ground := Ground.phase }, { on := 4, ground := Ground.phase }, { on := 5, ground := Ground.phase }, { on := 6, ground := Ground.phase }, { on := 7, ground := Ground.phase }, { on := 8, ground := Ground.phase }], guard := none }) rfl (fun K hK => ?_) AllReadyJ.nil
      go_simp
      refine hK.out _ _ (fun h => absurd h (by decide)) ?_
      clear hK K
      try simp only [Act.put, List.setIfInBounds_toArray, List.set_cons_zero, List.set_cons_succ]
      refine wpAnyJ_done (by kernel_rfl) ?_ _
      obtain ⟨w24, hw⟩ : ∃ X, X = wZ.setCell ⟨g, 3, none⟩ (.slice (some ⟨gZ, 0, none⟩) (l.length + 1) cZ) := ⟨_, rfl⟩
      rw [← hw] at R24 M24 N24 ⊢
      clear hw CA FA
      clear R23 M23
      clear T23 C22 C23 NV22 NV23 N21
      go_wp2_with fail
      go_roundg m
      case measure => omega
      case rel => exact ⟨m, l ++ [x23], s23, rfl, by omega, by simp; omega, E23, N24, R24, M24⟩
end Go.Proofs.YtmfoehaeejhlpaaGreatDoor

/-
  Lists of trees that lie apart from one another.
-/
namespace Go.Proofs.YtmfoehaeejhlpaaGreatDoor
open Go.RowKit Yn
set_option maxRecDepth 100000
/-- One behind another, within X. -/
def Sg (w : World) (X : Nat → Prop) (hi : Nat) : Nat → List Tree → List Value → Prop
  | lo, [], ps => ps = [] ∧ lo ≤ hi
  | lo, t :: ts, ps => ∃ mid p ps', ps = p :: ps' ∧ lo ≤ mid ∧ Nd (fun q => lo ≤ q ∧ q < mid ∧ X q) w t p ∧ Sg w X hi mid ts ps'
section
variable {w w' : World} {X Y Z : Nat → Prop} {hi hi' : Nat}
theorem Sg.le : ∀ {l : List Tree} {lo : Nat} {ps : List Value}, Sg w X hi lo l ps → lo ≤ hi
  | [], lo, ps, h => h.2
  | t :: ts, lo, ps, h => by
    obtain ⟨mid, p, ps', -, h1, -, h2⟩ := h
    exact Nat.le_trans h1 h2.le
theorem Sg.nds : ∀ {l : List Tree} {lo : Nat} {ps : List Value}, Sg w X hi lo l ps → Nds (fun q => lo ≤ q ∧ X q) w l ps
  | [], lo, ps, h => by
    rw [Nds]
    exact h.1
  | t :: ts, lo, ps, h => by
    obtain ⟨mid, p, ps', h0, h1, h3, h2⟩ := h
    rw [Nds]
    exact ⟨p, ps', h0, Nd.mono (fun q hq => ⟨hq.1, hq.2.2⟩) _ _ h3, Nds.mono (fun q hq => ⟨Nat.le_trans h1 hq.1, hq.2⟩) _ _ h2.nds⟩
theorem Sg.mono (hX : ∀ q, q < hi → X q → Y q) : ∀ {l : List Tree} {lo : Nat} {ps : List Value}, Sg w X hi lo l ps → Sg w Y hi lo l ps
  | [], lo, ps, h => h
  | t :: ts, lo, ps, h => by
    obtain ⟨mid, p, ps', h0, h1, h3, h2⟩ := h
    have := h2.le
    exact ⟨mid, p, ps', h0, h1, Nd.mono (fun q hq => ⟨hq.1, hq.2.1, hX q (by have := hq.2.1; omega) hq.2.2⟩) _ _ h3, h2.mono hX⟩
theorem Sg.mv (hm : Mv w w' Z) {b : Nat} (hZ : ∀ q, b ≤ q → q < hi → X q → ¬ Z q) : ∀ {l : List Tree} {lo : Nat} {ps : List Value}, b ≤ lo → Sg w X hi lo l ps → Sg w' X hi lo l ps
  | [], lo, ps, _, h => h
  | t :: ts, lo, ps, hb, h => by
    obtain ⟨mid, p, ps', h0, h1, h3, h2⟩ := h
    have := h2.le
    exact ⟨mid, p, ps', h0, h1, Nd.mv hm (fun q hq => hZ q (by have := hq.1; omega) (by have := hq.2.1; omega) hq.2.2) _ _ h3, h2.mv hm hZ (by omega)⟩
theorem Sg.up (hh : hi ≤ hi') : ∀ {l : List Tree} {lo : Nat} {ps : List Value}, Sg w X hi lo l ps → Sg w X hi' lo l ps
  | [], lo, ps, h => ⟨h.1, Nat.le_trans h.2 hh⟩
  | t :: ts, lo, ps, h => by
    obtain ⟨mid, p, ps', h0, h1, h3, h2⟩ := h
    exact ⟨mid, p, ps', h0, h1, h3, h2.up hh⟩
theorem Sg.snoc (hh : hi ≤ hi') {t : Tree} {p : Value} (ht : Nd (fun q => hi ≤ q ∧ q < hi' ∧ X q) w t p) : ∀ {l : List Tree} {lo : Nat} {ps : List Value}, Sg w X hi lo l ps → Sg w X hi' lo (l ++ [t]) (ps ++ [p])
  | [], lo, ps, h => by
    obtain ⟨rfl, h2⟩ := h
    exact ⟨hi', p, [], rfl, by omega, Nd.mono (fun q hq => ⟨by have := hq.1; omega, hq.2⟩) _ _ ht, rfl, Nat.le_refl _⟩
  | x :: xs, lo, ps, h => by
    obtain ⟨mid, q, ps', rfl, h1, h3, h2⟩ := h
    exact ⟨mid, q, ps' ++ [p], rfl, h1, h3, h2.snoc hh ht⟩
theorem Sg.len : ∀ {l : List Tree} {lo : Nat} {ps : List Value}, Sg w X hi lo l ps → ps.length = l.length := fun h => Nds.len h.nds
/-- One of them. -/
theorem Sg.get : ∀ {l1 l2 : List Tree} {op a : Nat} {t : ByteArray} {z : Int} {tl : List Tree} {lo : Nat} {ps : List Value}, Sg w X hi lo (l1 ++ .mk op t z tl a :: l2) ps → ∃ g vl vs, ps[l1.length]? = some (.pointer (some ⟨g, 0, none⟩)) ∧ lo ≤ g ∧ g < hi ∧ X g ∧ w.heap[g]? = some (.cells #[.int .i64 (op : Int), .string t, .int .i64 z, vl, .int .i64 (a : Int)] 51 (0, 0)) ∧ w.ownsRow 0 23 1 vl tl.length vs
  | [], l2, op, a, t, z, tl, lo, ps, h => by
    obtain ⟨mid, p, ps', rfl, h1, h3, h2⟩ := h
    have := h2.le
    rw [Nd] at h3
    obtain ⟨g, vl, vs, rfl, hx, hg, ho, -⟩ := h3
    exact ⟨g, vl, vs, rfl, hx.1, by have := hx.2.1; omega, hx.2.2, hg, ho⟩
  | x :: xs, l2, op, a, t, z, tl, lo, ps, h => by
    obtain ⟨mid, p, ps', rfl, h1, h3, h2⟩ := h
    obtain ⟨g, vl, vs, e1, e2, e3⟩ := Sg.get (l1 := xs) h2
    exact ⟨g, vl, vs, by simpa using e1, Nat.le_trans h1 e2, e3⟩
/-- One of them, empty, is put to another place. -/
theorem Sg.place {A g : Nat} : ∀ {l1 l2 : List Tree} {op a : Nat} {t : ByteArray} {z : Int} {lo : Nat} {ps : List Value}, Sg w X hi lo (l1 ++ .mk op t z [] a :: l2) ps → ps[l1.length]? = some (.pointer (some ⟨g, 0, none⟩)) → Sg (w.setCell ⟨g, 4, none⟩ (.int .i64 (A : Int))) X hi lo (l1 ++ .mk op t z [] A :: l2) ps ∧ lo ≤ g
  | [], l2, op, a, t, z, lo, ps, h, hp => by
    obtain ⟨mid, p, ps', rfl, h1, h3, h2⟩ := h
    have hp' : p = .pointer (some ⟨g, 0, none⟩) := by simpa using hp
    subst hp'
    have hm : Mv w (w.setCell ⟨g, 4, none⟩ (.int .i64 (A : Int))) (fun q => q = g) := (Mv.refl w (fun q => q = g)).set (g := g) rfl _ _
    rw [Nd] at h3
    obtain ⟨g', vl, vs, e, hx, hg, ho, hv, hn⟩ := h3
    have e' : g = g' := by
      injection e with e
      injection e with e
      injection e with e
    subst e'
    have hne : ∀ q, vl.ownBlock = some q → q ≠ g := by
      rintro q e rfl
      rcases ho.2 with ⟨rfl, -⟩ | ⟨q', cap, cur, rfl, -, h6, -⟩
      · simp [Value.ownBlock] at e
      · have e' : q' = q := Option.some.inj e
        subst e'
        rw [hg] at h6
        have := Option.some.inj h6
        injection this with _ hty
        exact absurd hty (by decide)
    refine ⟨⟨mid, _, ps', rfl, h1, ?_, h2.mv hm (b := mid) (fun q hq _ _ (e : q = g) => by have := hx.2.1; omega) (Nat.le_refl _)⟩, hx.1⟩
    rw [Nd]
    refine ⟨g, vl, vs, rfl, hx, heap_setCell_same w g 4 _ 51 _ hg, hm.own ho (fun q e => hne q e), hv, ?_⟩
    rw [Nds] at hn ⊢
    exact hn
  | x :: xs, l2, op, a, t, z, lo, ps, h, hp => by
    obtain ⟨mid, p, ps', rfl, h1, h3, h2⟩ := h
    obtain ⟨e1, e2⟩ := Sg.place (A := A) (g := g) (l1 := xs) h2 (by simpa using hp)
    have hm : Mv w (w.setCell ⟨g, 4, none⟩ (.int .i64 (A : Int))) (fun q => q = g) := (Mv.refl w (fun q => q = g)).set (g := g) rfl _ _
    exact ⟨⟨mid, p, ps', rfl, h1, Nd.mv hm (fun q hq (e : q = g) => by have := hq.2.1; omega) _ _ h3, e1⟩, Nat.le_trans h1 e2⟩
end
/-- A node that is being filled with trees apart from one another. -/
def Ns (lo hi : Nat) (w : World) (g op : Nat) (t : ByteArray) (n : Int) (l : List Tree) (a : Nat) (ao : Option Addr) (c : Nat) (ps : List Value) : Prop :=
  (lo ≤ g ∧ g < hi ∧ hi ≤ w.heap.size) ∧ w.heap[g]? = some (.cells #[.int .i64 (op : Int), .string t, .int .i64 n, .slice ao l.length c, .int .i64 (a : Int)] 51 (0, 0)) ∧ w.ownsRow 0 23 1 (.slice ao l.length c) l.length ps ∧ (∀ q, (Value.slice ao l.length c).ownBlock = some q → lo ≤ q ∧ q ≠ g) ∧ Sg w (fun q => q ≠ g ∧ (Value.slice ao l.length c).ownBlock ≠ some q) hi lo l ps ∧ l.length ≤ c ∧ c ≤ 9223372036854775807
section
variable {lo hi g op a k c : Nat} {t : ByteArray} {n : Int} {l : List Tree} {w w' : World} {ao : Option Addr} {ps : List Value}
theorem Ns.nv (h : Ns lo hi w g op t n l a ao c ps) : Nv lo w g op t n l a ao c ps := by
  obtain ⟨h1, h2, h3, h4, h5, h6⟩ := h
  exact ⟨h1.1, h2, h3, h4, Nds.mono (fun q hq => ⟨hq.1, hq.2.1, hq.2.2⟩) _ _ h5.nds, h6⟩
theorem Ns.mvk (h : Ns lo hi w g op t n l a ao c ps) (hm : Mv w w' (fun j => j = k)) (hk : k < lo) : Ns lo hi w' g op t n l a ao c ps := by
  obtain ⟨h1, h2, h3, h4, h5, h6⟩ := h
  have := hm.size
  exact ⟨⟨h1.1, h1.2.1, by omega⟩, hm.at h2 (fun (e : g = k) => by omega), hm.own h3 (fun q e (e2 : q = k) => by have := (h4 q e).1; omega), h4, h5.mv hm (b := lo) (fun q hq _ _ (e : q = k) => by omega) (Nat.le_refl _), h6⟩
theorem Ns.later (h : Ns lo hi w g op t n l a ao c ps) (hb : Below w.heap.size w w') : Ns lo hi w' g op t n l a ao c ps := by
  obtain ⟨h1, h2, h3, h4, h5, h6⟩ := h
  have := hb.size
  exact ⟨⟨h1.1, h1.2.1, by omega⟩, (hb.block g (lt_of_block h2)).trans h2, own_later h3 hb, h4, h5.mv (Mv.of_below hb (fun _ => False)) (b := lo) (fun _ _ _ _ e => e) (Nat.le_refl _), h6⟩
/-- One more is appended, which lies behind all. -/
theorem Ns.push {w5 w9 : World} {p : Value} {x : Tree} {g9 c9 m h2 : Nat} {o : Obj} (h : Ns lo hi w5 g op t n l a ao c ps) (hh : hi ≤ h2) (hh2 : h2 ≤ w5.heap.size) (hv2 : ∀ q, (Value.slice ao l.length c).ownBlock = some q → q < h2)
    (hx : Nd (fun q => h2 ≤ q ∧ q < w5.heap.size) w5 x p) (hm : (l ++ [x]).length = m)
    (ho9 : w9.ownsRow 0 23 1 (.slice (some ⟨g9, 0, none⟩) m c9) m (ps ++ [p])) (hg9 : (w5.alloc o).grownBy w9 (Value.slice ao l.length c).ownBlock) (ha9 : (Value.slice ao l.length c).ownBlock = some g9 ∨ g9 = (w5.alloc o).heap.size) (hc9 : m ≤ c9 ∧ c9 ≤ 9223372036854775807) :
    Ns lo w5.heap.size (w9.setCell ⟨g, 3, none⟩ (.slice (some ⟨g9, 0, none⟩) m c9)) g op t n (l ++ [x]) a (some ⟨g9, 0, none⟩) c9 (ps ++ [p]) := by
  obtain ⟨h1, hg, ho, hv, hl, -⟩ := h
  have hgl := lt_of_block hg
  have hsz : (w5.alloc o).heap.size = w5.heap.size + 1 := Array.size_push ..
  have hm9 : Mv w5 w9 (fun q => (Value.slice ao l.length c).ownBlock = some q) := ((Mv.refl w5 (fun q => (Value.slice ao l.length c).ownBlock = some q)).later (below_alloc w5 o)).grown hg9 (fun q _ e => e)
  have hs9 : Mv w9 (w9.setCell ⟨g, 3, none⟩ (.slice (some ⟨g9, 0, none⟩) m c9)) (fun q => q = g) := (Mv.refl w9 (fun q => q = g)).set (g := g) rfl _ _
  have hg9g : lo ≤ g9 ∧ g9 ≠ g := by
    rcases ha9 with e | e
    · exact hv _ e
    · omega
  have h9 := hm9.at hg (fun e => (hv g e).2 rfl)
  have hz9 := hm9.size
  have hzs := hs9.size
  subst hm
  refine ⟨⟨h1.1, by omega, by omega⟩, heap_setCell_same w9 g 3 _ 51 _ h9, hs9.own ho9 (fun q e (e2 : q = g) => ?_), fun q e => ?_, ?_, hc9⟩
  · have e' : g9 = q := Option.some.inj e
    omega
  · have e' : g9 = q := Option.some.inj e
    omega
  · have hX : ∀ q, q < w5.heap.size → (q ≠ g ∧ (Value.slice ao l.length c).ownBlock ≠ some q) → (q ≠ g ∧ (Value.slice (some ⟨g9, 0, none⟩) (l ++ [x]).length c9).ownBlock ≠ some q) := fun q hq e => ⟨e.1, fun e2 => by
      have e' : g9 = q := Option.some.inj e2
      rcases ha9 with d | d
      · exact e.2 (e' ▸ d)
      · omega⟩
    have hmm : Mv w5 (w9.setCell ⟨g, 3, none⟩ (.slice (some ⟨g9, 0, none⟩) (l ++ [x]).length c9)) (fun q => (Value.slice ao l.length c).ownBlock = some q ∨ q = g) := (hm9.mono (fun q _ e => Or.inl e)).trans hs9 (fun q _ e => Or.inr e)
    refine Sg.snoc (hi := h2) hh2 ?_ ?_
    · refine Nd.mv hmm (fun q hq e => ?_) _ _ (Nd.mono (fun q hq => ⟨hq.1, hq.2, hX q hq.2 ⟨by have := hq.1; omega, fun e => by have := hv2 q e; have := hq.1; omega⟩⟩) _ _ hx)
      rcases e with e | e
      · have := hv2 q e
        have := hq.1
        omega
      · have := hq.1
        omega
    · refine Sg.up hh (Sg.mono (fun q hq e => hX q (by omega) e) (Sg.mv hmm (b := lo) (fun q _ _ hx e => ?_) (Nat.le_refl _) hl))
      rcases e with e | e
      · exact hx.2 e
      · exact hx.1 e
end
end Go.Proofs.YtmfoehaeejhlpaaGreatDoor
