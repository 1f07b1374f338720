import Derived.Test.YtmfoehaeejhlpaaGreatDoorGaAD
import Derived.Test.YtmfoehaeejhlpaaGreatDoorGaAE
/-
  The reader: arguments, numbers, has.
-/
namespace Go.Proofs.YtmfoehaeejhlpaaGreatDoor
open Go.RowKit Yn
set_option maxRecDepth 100000
theorem items_de {p : Nat → S → R Tree} (hp : ∀ n s t s', p n s = .ok t s' → s'.de = s.de) : ∀ (n : Nat) (l : List Tree) (s : S) (l' : List Tree) (s' : S), items p n l s = .ok l' s' → s'.de = s.de
  | 0, l, s, l', s', h => by rw [items] at h; cases h
  | n + 1, l, s, l', s', h => by
    rw [items] at h
    split at h
    · obtain ⟨x, s1, h1, h2⟩ := bind_ok h
      exact (items_de hp n _ _ _ _ h2).trans ((hp _ _ _ _ h1).trans nx_de)
    · cases h
      rfl
theorem list_de {p : Nat → S → R Tree} (hp : ∀ n s t s', p n s = .ok t s' → s'.de = s.de) {n : Nat} {x : ByteArray} {s : S} {l : List Tree} {s' : S} (h : listS p n x s = .ok l s') : s'.de = s.de := by
  unfold listS at h
  split at h
  · cases h
    rfl
  · obtain ⟨y, s1, h1, h2⟩ := bind_ok h
    exact (items_de hp n _ _ _ _ h2).trans (hp _ _ _ _ h1)
theorem isList.mv {W W' W2 : World} {l : List Tree} {v : Value} {k : Nat} (h : isList W l v W') (hm : Mv W' W2 (fun j => j = k)) (hk : k < W.heap.size) : isList W l v W2 := by
  obtain ⟨ps, h1, h2, h3⟩ := h
  exact ⟨ps, hm.own h1 (fun q e (e2 : q = k) => by have := h2 q e; omega), h2, Nds.mv hm (fun q hq (e : q = k) => by have : W.heap.size ≤ q := hq.1; omega) _ _ h3⟩
def Ca (n : Nat) : Prop := ∀ (W : World) (B k : Nat) (ws : List ByteArray) (s : S), Rd W B k ws s → args ws n s ≠ .out → Calls Tryz.prog 218 #[.pointer (some ⟨k, 0, none⟩)] W (Out (isList W) W B k ws (args ws n s))
set_option maxHeartbeats 4000000 in
theorem args_step {n : Nat} (hn : n ≤ 1000000) (hc : ∀ m, m ≤ n → Cc m) : Ca (n + 1) := by
  intro W B k ws s hR hne
  obtain ⟨r, hr⟩ : ∃ r, r = args ws (n + 1) s := ⟨_, rfl⟩
  rw [← hr] at hne ⊢
  rw [args_list] at hr
  have HC := hide hc
  have H := hide hR
  have HNE := hide hne
  have HE := hide hr
  have hkW := hR.lt
  clear hc hR hne hr
  go_enter Tryz.func218, Tryz.ntmps218
  go_wp2_with fail
  refine calls_sub HE.out HNE.out (Mv.refl _ _) (fun _ => open_any H.out cOpen (by decide)) (by (intro a er e w' hE hp; have hp2 := hp; obtain ⟨q, hq1, -⟩ := hp; subst hq1; subst hE; exact ⟨rfl, hp2⟩)) ?_
  intro x1 s1 v1 w1 hq1 hr1 hv1 hR1 hm1 hM1
  subst hv1
  have E1 := hide hr1
  have D1 := hide (open_de hq1)
  have R1 := hide hR1
  have M1 := hide hM1
  clear hq1 hr1 hR1 hm1 hM1 HE
  go_wp2_with fail
  refine calls_sub E1.out HNE.out M1.out (fun h => listC_any hn HC.out R1.out cClose h) (by (intro a er e w' hE hp; have hp2 := hp; obtain ⟨q, hq1, -⟩ := hp; subst hq1; subst hE; exact ⟨rfl, hp2⟩)) ?_
  intro x2 s2 v2 w2 hq2 hr2 hv2 hR2 hm2 hM2
  have E2 := hide hr2
  have D2 := hide (list_de (fun n s t s' h => (expr_de ws n).1 s t s' h) hq2)
  have R2 := hide hR2
  have M2 := hide hM2
  have T2 := hide hv2
  have hz1 := M1.out.size
  obtain ⟨ps, hrow, -⟩ := hv2
  obtain ⟨ao, c, rfl⟩ := own_len hrow
  clear hq2 hr2 hR2 hm2 hM2 hrow E1 R1
  go_wp2_with fail
  refine calls_sub E2.out HNE.out M2.out (fun _ => take_any R2.out cClose (by decide)) (by (intro a er e w' hE hp; have hp2 := hp; obtain ⟨q, hq1, -⟩ := hp; subst hq1; subst hE; exact ⟨rfl, hp2⟩)) ?_
  intro x3 s3 v3 w3 hq3 hr3 hv3 hR3 hm3 hM3
  subst hv3
  have E3 := hide hr3
  have hde : s3.de = s.de + 1 := (take_de hq3).trans (D2.out.trans D1.out)
  have J := hide (leave_any hR3 (by omega))
  have M3 := hide hM3
  have T3 := hide (isList.mv T2.out hm3 (by omega))
  clear hq3 hr3 hR3 hm3 hM3 E2 R2 D1 D2 T2 M2
  go_wp2_with fail
  refine J.out.mono ?_
  rintro e w4 ⟨rfl, hR4, hm4⟩
  have R4 := hide hR4
  have M4 := hide (M3.out.trans hm4 (fun _ _ e => e))
  have T4 := hide (isList.mv T3.out hm4 (by omega))
  clear hR4 hm4 J T3 M3
  go_wp2_with fail
  go_ret
  have ER := E3.out
  subst ER
  obtain ⟨ps, h1, h2, h3⟩ := T4.out
  exact ⟨_, rfl, ⟨ps, h1, fun q e => Nat.le_trans hz1 (h2 q e), Nds.mono (fun q hq => ⟨Nat.le_trans hz1 hq.1, hq.2⟩) _ _ h3⟩, R4.out, M4.out⟩
/-- What is said of strconv.ParseInt of a number's text. -/
def Pz : Prop := ∀ (t : ByteArray) (W : World), Dg t → Calls Tryz.prog 102 #[.string t, .int .i64 10, .int .i64 64] W fun e W' => e = .returned (.tuple #[.int .i64 (digits t), .nilIface]) ∧ Below W.heap.size W W'
/-- A leaf: a node with nothing in its list. -/
theorem nd_leaf {W : World} {X : Nat → Prop} {g op a : Nat} {t : ByteArray} {n : Int} (hg : W.heap[g]? = some (.cells #[.int .i64 (op : Int), .string t, .int .i64 n, .slice none 0 0, .int .i64 (a : Int)] 51 (0, 0))) (hX : X g) : Nd X W (.mk op t n [] a) (.pointer (some ⟨g, 0, none⟩)) := by
  rw [Nd]
  exact ⟨g, _, [], rfl, hX, hg, World.ownsRow_nil _ _ _ _, fun q e => by simp [Value.ownBlock] at e, Nds.none⟩
theorem Rd.num {W : World} {B k : Nat} {ws : List ByteArray} {s : S} (h : Rd W B k ws s) (hk : (hd s).k = 2) : Dg (hd s).t := h.2.2.1.num hk
set_option maxHeartbeats 4000000 in
theorem number_any (hP : Pz) {W : World} {B k : Nat} {ws : List ByteArray} {s : S} (hR : Rd W B k ws s) (h2 : (hd s).k = 2) : Calls Tryz.prog 216 #[.pointer (some ⟨k, 0, none⟩)] W (Out (isTree W) W B k ws (.ok (.mk 30 (bs []) (digits (hd s).t) [] (hd s).a) (nx s))) := by
  have HP := hide hP
  have H := hide hR
  have hkW := hR.lt
  have f1 := fld1
  have HD := hide (hR.num h2)
  have J1 := hide (node_any hR 30)
  have hne : (hd s).k ≠ 0 ∨ (hd s).t ≠ bs [] := .inl (by omega)
  clear hP hR h2
  go_enter Tryz.func216, Tryz.ntmps216
  go_wp2_with fail
  refine J1.out.mono ?_
  rintro e w1 ⟨g, rfl, hg, hg1, hb1⟩
  have J2 := hide (next_any (H.out.later hb1) hne)
  unfold tokV at J2
  have M1 := hide (Mv.of_below hb1 (fun j => j = k))
  have G1 := hide hg1
  clear hb1 hg1 J1
  go_wp2_with fail
  refine J2.out.mono ?_
  rintro e w2 ⟨rfl, hR2, hm2⟩
  have R2 := hide hR2
  have M2 := hide (M1.out.trans hm2 (fun _ _ e => e))
  have G2 := hide (hm2.at G1.out (fun (e : g = k) => by omega))
  clear hR2 hm2 G1 M1 J2
  go_wp2_with fail
  refine (HP.out _ _ HD.out).mono ?_
  rintro e w3 ⟨rfl, hb3⟩
  have hg3 := (hb3.block g (lt_of_block G2.out)).trans G2.out
  have c3 : w3.cell? ⟨g, 2, none⟩ = some (.int .i64 0) := by rw [cell_of_row w3 g _ _ 51 (0, 0) hg3]; rfl
  have f3 : w3.frozen? ⟨g, 2, none⟩ = false := frozen_of_row w3 g 2 _ 51 hg3
  have hgk : g ≠ k := by omega
  have hm4 : Mv w3 (w3.setCell ⟨g, 2, none⟩ (.int .i64 (digits (hd s).t))) (fun j => j = g) := (Mv.refl w3 (fun j => j = g)).set (g := g) rfl _ _
  have hg4 := heap_setCell_same w3 g 2 _ 51 (.int .i64 (digits (hd s).t)) hg3
  have R4 := hide ((R2.out.later hb3).mv hm4 (fun j (e : j = g) => by have := R2.out.1; have := H.out.1; omega))
  have M4 := hide ((M2.out.later hb3).trans hm4 (fun j hj (e : j = g) => by omega))
  have T4 : Hid (Nd (fun q => W.heap.size ≤ q) (w3.setCell ⟨g, 2, none⟩ (.int .i64 (digits (hd s).t))) (.mk 30 (bs []) (digits (hd s).t) [] (hd s).a) (.pointer (some ⟨g, 0, none⟩))) := nd_leaf hg4 hg
  obtain ⟨w4, hw4⟩ : ∃ X, X = w3.setCell ⟨g, 2, none⟩ (.int .i64 (digits (hd s).t)) := ⟨_, rfl⟩
  rw [← hw4] at R4 M4 T4
  have HW4 := hide hw4
  clear hg4 hm4 hw4 hb3 hg3
  go_wp2_with fail
  rw [← HW4.out]
  go_ret
  exact ⟨_, rfl, T4.out, R4.out, M4.out⟩
set_option maxHeartbeats 4000000 in
theorem has_any {W : World} {B k : Nat} {ws : List ByteArray} {s : S} (hR : Rd W B k ws s) {r : R Tree} (hr : r = (take wHas s).bind fun _ s1 => (take cOpen s1).bind fun _ s2 => (name ws s2).bind fun t s3 => (take cClose s3).bind fun _ s4 => .ok (.mk 37 t 0 [] (hd s).a) s4) (hne : r ≠ .out) : Calls Tryz.prog 217 #[.pointer (some ⟨k, 0, none⟩)] W (Out (isTree W) W B k ws r) := by
  have H := hide hR
  have hkW := hR.lt
  have J1 := hide (node_any hR 37)
  have HNE := hide hne
  have HE := hide hr
  clear hR hr hne
  go_enter Tryz.func217, Tryz.ntmps217
  go_wp2_with fail
  refine J1.out.mono ?_
  rintro e w1 ⟨g, rfl, hg, hg1, hb1⟩
  have R1 := hide (H.out.later hb1)
  have M1 := hide (Mv.of_below hb1 (fun j => j = k))
  have G1 := hide hg1
  clear hb1 hg1 J1
  go_wp2_with fail
  refine calls_sub HE.out HNE.out M1.out (fun _ => take_any R1.out wHas (by decide)) (by (intro a er e w' hE hp; have hp2 := hp; obtain ⟨q, hq1, -⟩ := hp; subst hq1; subst hE; exact ⟨rfl, hp2⟩)) ?_
  intro x2 s2 v2 w2 hq2 hr2 hv2 hR2 hm2 hM2
  subst hv2
  have E2 := hide hr2
  have R2 := hide hR2
  have M2 := hide hM2
  have G2 := hide (hm2.at G1.out (fun (e : g = k) => by omega))
  clear hq2 hr2 hR2 hm2 hM2 HE R1 G1 M1
  go_wp2_with fail
  refine calls_sub E2.out HNE.out M2.out (fun _ => take_any R2.out cOpen (by decide)) (by (intro a er e w' hE hp; have hp2 := hp; obtain ⟨q, hq1, -⟩ := hp; subst hq1; subst hE; exact ⟨rfl, hp2⟩)) ?_
  intro x3 s3 v3 w3 hq3 hr3 hv3 hR3 hm3 hM3
  subst hv3
  have E3 := hide hr3
  have R3 := hide hR3
  have M3 := hide hM3
  have G3 := hide (hm3.at G2.out (fun (e : g = k) => by omega))
  clear hq3 hr3 hR3 hm3 hM3 E2 R2 G2 M2
  go_wp2_with fail
  refine calls_sub E3.out HNE.out M3.out (fun _ => name_any R3.out) (by (intro a er e w' hE hp; have hp2 := hp; obtain ⟨q, hq1, -⟩ := hp; subst hq1; subst hE; exact ⟨rfl, hp2⟩)) ?_
  intro t s4 v4 w4 hq4 hr4 hv4 hR4 hm4 hM4
  subst hv4
  have E4 := hide hr4
  have hg4 := hm4.at G3.out (fun (e : g = k) => by omega)
  have c4 : w4.cell? ⟨g, 1, none⟩ = some (.string (bs [])) := by rw [cell_of_row w4 g _ _ 51 (0, 0) hg4]; rfl
  have f4 : w4.frozen? ⟨g, 1, none⟩ = false := frozen_of_row w4 g 1 _ 51 hg4
  have hgk : g ≠ k := by omega
  have hm5 : Mv w4 (w4.setCell ⟨g, 1, none⟩ (.string t)) (fun j => j = g) := (Mv.refl w4 (fun j => j = g)).set (g := g) rfl _ _
  have G5 := hide (heap_setCell_same w4 g 1 _ 51 (.string t) hg4)
  have R5 := hide (hR4.mv hm5 (fun j (e : j = g) => by have := hR4.1; omega))
  have M5 := hide (hM4.trans hm5 (fun j hj (e : j = g) => by omega))
  obtain ⟨w5, hw5⟩ : ∃ X, X = w4.setCell ⟨g, 1, none⟩ (.string t) := ⟨_, rfl⟩
  rw [← hw5] at R5 M5 G5
  have HW5 := hide hw5
  clear hq4 hr4 hR4 hm4 hM4 E3 R3 G3 M3 hg4 hm5 hw5
  go_wp2_with fail
  rw [← HW5.out]
  refine calls_sub E4.out HNE.out M5.out (fun _ => take_any R5.out cClose (by decide)) (by (intro a er e w' hE hp; have hp2 := hp; obtain ⟨q, hq1, -⟩ := hp; subst hq1; subst hE; exact ⟨rfl, hp2⟩)) ?_
  intro x6 s6 v6 w6 hq6 hr6 hv6 hR6 hm6 hM6
  subst hv6
  have E6 := hide hr6
  have R6 := hide hR6
  have M6 := hide hM6
  have G6 := hide (hm6.at G5.out (fun (e : g = k) => by omega))
  clear hq6 hr6 hR6 hm6 hM6 E4 R5 G5 M5 HW5
  go_wp2_with fail
  go_ret
  have ER := E6.out
  subst ER
  exact ⟨_, rfl, nd_leaf G6.out hg, R6.out, M6.out⟩
end Go.Proofs.YtmfoehaeejhlpaaGreatDoor

/-
  The reader: a node that is being filled.
-/
namespace Go.Proofs.YtmfoehaeejhlpaaGreatDoor
open Go.RowKit Yn
set_option maxRecDepth 100000
/-- A node that is being filled, with all that hangs on it, at lo or above. -/
def Np (lo : Nat) (w : World) (g op : Nat) (t : ByteArray) (n : Int) (l : List Tree) (a : Nat) : Prop :=
  lo ≤ g ∧ ∃ vl ps, w.heap[g]? = some (.cells #[.int .i64 (op : Int), .string t, .int .i64 n, vl, .int .i64 (a : Int)] 51 (0, 0)) ∧ w.ownsRow 0 23 1 vl l.length ps ∧ (∀ q, vl.ownBlock = some q → lo ≤ q ∧ q ≠ g) ∧ Nds (fun q => lo ≤ q ∧ q ≠ g ∧ vl.ownBlock ≠ some q) w l ps
section
variable {lo g op a k : Nat} {t : ByteArray} {n : Int} {l : List Tree} {w w' : World}
theorem Np.lt (h : Np lo w g op t n l a) : g < w.heap.size := by
  obtain ⟨h1, vl, ps, h2, -⟩ := h
  exact lt_of_block h2
theorem Np.mv (h : Np lo w g op t n l a) {Z : Nat → Prop} (hm : Mv w w' Z) (hk : ∀ q, Z q → q < lo) : Np lo w' g op t n l a := by
  obtain ⟨h1, vl, ps, h2, h3, h4, h5⟩ := h
  exact ⟨h1, vl, ps, hm.at h2 (fun e => by have := hk g e; omega), hm.own h3 (fun q e e2 => by have := (h4 q e).1; have := hk q e2; omega), h4, Nds.mv hm (fun q hq e => by have := hk q e; have := hq.1; omega) _ _ h5⟩
theorem Np.mvk (h : Np lo w g op t n l a) (hm : Mv w w' (fun j => j = k)) (hk : k < lo) : Np lo w' g op t n l a := h.mv hm (fun q (e : q = k) => by omega)
theorem Np.later (h : Np lo w g op t n l a) (hb : Below w.heap.size w w') : Np lo w' g op t n l a := h.mv (Mv.of_below hb (fun _ => False)) (fun _ e => e.elim)
theorem Np.lower {lo' : Nat} (h : Np lo w g op t n l a) (hl : lo' ≤ lo) : Np lo' w g op t n l a := by
  obtain ⟨h1, vl, ps, h2, h3, h4, h5⟩ := h
  exact ⟨Nat.le_trans hl h1, vl, ps, h2, h3, fun q e => ⟨Nat.le_trans hl (h4 q e).1, (h4 q e).2⟩, Nds.mono (fun q hq => ⟨Nat.le_trans hl hq.1, hq.2⟩) _ _ h5⟩
theorem Np.done (h : Np lo w g op t n l a) : Nd (fun q => lo ≤ q) w (.mk op t n l a) (.pointer (some ⟨g, 0, none⟩)) := by
  obtain ⟨h1, vl, ps, h2, h3, h4, h5⟩ := h
  rw [Nd]
  exact ⟨g, vl, ps, rfl, h1, h2, h3, fun q e => (h4 q e).1, Nds.mono (fun q hq => hq.1) _ _ h5⟩
theorem Np.fresh (hlo : lo ≤ g) (hg : w.heap[g]? = some (.cells #[.int .i64 (op : Int), .string t, .int .i64 n, .slice none 0 0, .int .i64 (a : Int)] 51 (0, 0))) : Np lo w g op t n [] a :=
  ⟨hlo, _, [], hg, World.ownsRow_nil _ _ _ _, fun q e => by simp [Value.ownBlock] at e, Nds.none⟩
theorem Np.setText (h : Np lo w g op t n l a) (t' : ByteArray) : Np lo (w.setCell ⟨g, 1, none⟩ (.string t')) g op t' n l a ∧ Mv w (w.setCell ⟨g, 1, none⟩ (.string t')) (fun q => q = g) := by
  obtain ⟨h1, vl, ps, h2, h3, h4, h5⟩ := h
  have hm : Mv w (w.setCell ⟨g, 1, none⟩ (.string t')) (fun q => q = g) := (Mv.refl w (fun q => q = g)).set (g := g) rfl _ _
  exact ⟨⟨h1, vl, ps, heap_setCell_same w g 1 _ 51 (.string t') h2, hm.own h3 (fun q e (e2 : q = g) => (h4 q e).2 e2), h4, Nds.mv hm (fun q hq e => hq.2.1 e) _ _ h5⟩, hm⟩
theorem Np.setOp (h : Np lo w g op t n l a) (op' : Nat) : Np lo (w.setCell ⟨g, 0, none⟩ (.int .i64 (op' : Int))) g op' t n l a ∧ Mv w (w.setCell ⟨g, 0, none⟩ (.int .i64 (op' : Int))) (fun q => q = g) := by
  obtain ⟨h1, vl, ps, h2, h3, h4, h5⟩ := h
  have hm : Mv w (w.setCell ⟨g, 0, none⟩ (.int .i64 (op' : Int))) (fun q => q = g) := (Mv.refl w (fun q => q = g)).set (g := g) rfl _ _
  exact ⟨⟨h1, vl, ps, heap_setCell_same w g 0 _ 51 (.int .i64 (op' : Int)) h2, hm.own h3 (fun q e (e2 : q = g) => (h4 q e).2 e2), h4, Nds.mv hm (fun q hq e => hq.2.1 e) _ _ h5⟩, hm⟩
theorem Np.setAt (h : Np lo w g op t n l a) (a' : Nat) : Np lo (w.setCell ⟨g, 4, none⟩ (.int .i64 (a' : Int))) g op t n l a' ∧ Mv w (w.setCell ⟨g, 4, none⟩ (.int .i64 (a' : Int))) (fun q => q = g) := by
  obtain ⟨h1, vl, ps, h2, h3, h4, h5⟩ := h
  have hm : Mv w (w.setCell ⟨g, 4, none⟩ (.int .i64 (a' : Int))) (fun q => q = g) := (Mv.refl w (fun q => q = g)).set (g := g) rfl _ _
  exact ⟨⟨h1, vl, ps, heap_setCell_same w g 4 _ 51 (.int .i64 (a' : Int)) h2, hm.own h3 (fun q e (e2 : q = g) => (h4 q e).2 e2), h4, Nds.mv hm (fun q hq e => hq.2.1 e) _ _ h5⟩, hm⟩
/-- A list that was read takes the place of the node's own. -/
theorem Np.setList (h : Np lo w g op t n l a) {vl' : Value} {l' : List Tree} {ps' : List Value} (ho : w.ownsRow 0 23 1 vl' l'.length ps') (hv : ∀ q, vl'.ownBlock = some q → lo ≤ q ∧ q ≠ g) (hl2 : Nds (fun q => lo ≤ q ∧ q ≠ g ∧ vl'.ownBlock ≠ some q) w l' ps') : Np lo (w.setCell ⟨g, 3, none⟩ vl') g op t n l' a ∧ Mv w (w.setCell ⟨g, 3, none⟩ vl') (fun q => q = g) := by
  obtain ⟨h1, vl, ps, h2, h3, h4, h5⟩ := h
  have hm : Mv w (w.setCell ⟨g, 3, none⟩ vl') (fun q => q = g) := (Mv.refl w (fun q => q = g)).set (g := g) rfl _ _
  exact ⟨⟨h1, vl', ps', heap_setCell_same w g 3 _ 51 vl' h2, hm.own ho (fun q e (e2 : q = g) => (hv q e).2 e2), hv, Nds.mv hm (fun q hq e => hq.2.1 e) _ _ hl2⟩, hm⟩
theorem Np.cells (h : Np lo w g op t n l a) : (w.cell? ⟨g, 0, none⟩ = some (.int .i64 (op : Int)) ∧ w.cell? ⟨g, 1, none⟩ = some (.string t) ∧ w.cell? ⟨g, 4, none⟩ = some (.int .i64 (a : Int))) ∧ ∀ q, w.frozen? ⟨g, q, none⟩ = false := by
  obtain ⟨h1, vl, ps, h2, -⟩ := h
  exact ⟨⟨by rw [cell_of_row w g _ _ 51 (0, 0) h2]; rfl, by rw [cell_of_row w g _ _ 51 (0, 0) h2]; rfl, by rw [cell_of_row w g _ _ 51 (0, 0) h2]; rfl⟩, fun q => frozen_of_row w g q _ 51 h2⟩
/-- The same, with the list's value told. -/
def Nv (lo : Nat) (w : World) (g op : Nat) (t : ByteArray) (n : Int) (l : List Tree) (a : Nat) (ao : Option Addr) (c : Nat) (ps : List Value) : Prop :=
  lo ≤ g ∧ w.heap[g]? = some (.cells #[.int .i64 (op : Int), .string t, .int .i64 n, .slice ao l.length c, .int .i64 (a : Int)] 51 (0, 0)) ∧ w.ownsRow 0 23 1 (.slice ao l.length c) l.length ps ∧ (∀ q, (Value.slice ao l.length c).ownBlock = some q → lo ≤ q ∧ q ≠ g) ∧ Nds (fun q => lo ≤ q ∧ q ≠ g ∧ (Value.slice ao l.length c).ownBlock ≠ some q) w l ps ∧ l.length ≤ c ∧ c ≤ 9223372036854775807
theorem Np.nv (h : Np lo w g op t n l a) : ∃ ao c ps, Nv lo w g op t n l a ao c ps := by
  obtain ⟨h1, vl, ps, h2, h3, h4, h5⟩ := h
  obtain ⟨ao, c, rfl⟩ := own_len h3
  have hc := own_cap h3
  exact ⟨ao, c, ps, h1, h2, h3, h4, h5, hc.1, hc.2⟩
section
variable {ao : Option Addr} {c : Nat} {ps : List Value}
theorem Nv.mv (h : Nv lo w g op t n l a ao c ps) {Z : Nat → Prop} (hm : Mv w w' Z) (hk : ∀ q, Z q → q < lo) : Nv lo w' g op t n l a ao c ps := by
  obtain ⟨h1, h2, h3, h4, h5, h6⟩ := h
  exact ⟨h1, hm.at h2 (fun e => by have := hk g e; omega), hm.own h3 (fun q e e2 => by have := (h4 q e).1; have := hk q e2; omega), h4, Nds.mv hm (fun q hq e => by have := hk q e; have := hq.1; omega) _ _ h5, h6⟩
theorem Nv.mvk (h : Nv lo w g op t n l a ao c ps) (hm : Mv w w' (fun j => j = k)) (hk : k < lo) : Nv lo w' g op t n l a ao c ps := h.mv hm (fun q (e : q = k) => by omega)
theorem Nv.later (h : Nv lo w g op t n l a ao c ps) (hb : Below w.heap.size w w') : Nv lo w' g op t n l a ao c ps := h.mv (Mv.of_below hb (fun _ => False)) (fun _ e => e.elim)
theorem Nv.cell (h : Nv lo w g op t n l a ao c ps) : w.cell? ⟨g, 3, none⟩ = some (.slice ao l.length c) := by
  rw [cell_of_row w g _ _ 51 (0, 0) h.2.1]
  rfl
theorem Nv.lt (h : Nv lo w g op t n l a ao c ps) : g < w.heap.size := lt_of_block h.2.1
theorem Nv.own (h : Nv lo w g op t n l a ao c ps) : w.ownsRow 0 23 1 (.slice ao l.length c) l.length ps := h.2.2.1
theorem Nv.cap (h : Nv lo w g op t n l a ao c ps) : l.length ≤ c ∧ c ≤ 9223372036854775807 := h.2.2.2.2.2
theorem Nv.old (h : Nv lo w g op t n l a ao c ps) {q : Nat} (hq : w.heap.size ≤ q) : lo ≤ q ∧ q ≠ g ∧ (Value.slice ao l.length c).ownBlock ≠ some q := by
  have := h.lt
  have := h.1
  refine ⟨by omega, by omega, fun e => ?_⟩
  have := (h.own.lt q e).2
  omega
end
theorem Nds.append {X : Nat → Prop} {W : World} : ∀ {l : List Tree} {ps : List Value}, Nds X W l ps → ∀ {l' : List Tree} {ps' : List Value}, Nds X W l' ps' → Nds X W (l ++ l') (ps ++ ps')
  | [], ps, h, l', ps', h' => by
    rw [Nds] at h
    subst h
    exact h'
  | x :: xs, ps, h, l', ps', h' => by
    rw [Nds] at h
    obtain ⟨p, ps2, rfl, h1, h2⟩ := h
    show Nds X W (x :: (xs ++ l')) (p :: (ps2 ++ ps'))
    rw [Nds]
    exact ⟨_, _, rfl, h1, Nds.append h2 h'⟩
/-- More is appended to the node's list. -/
theorem Nv.push {w5 w9 : World} {ao : Option Addr} {c : Nat} {ps qs : List Value} {xs : List Tree} {g9 c9 m : Nat} {o : Obj} (h : Nv lo w5 g op t n l a ao c ps)
    (hx : Nds (fun q => lo ≤ q ∧ q ≠ g ∧ (Value.slice ao l.length c).ownBlock ≠ some q) w5 xs qs) (hm : (l ++ xs).length = m)
    (ho9 : w9.ownsRow 0 23 1 (.slice (some ⟨g9, 0, none⟩) m c9) m (ps ++ qs)) (hg9 : (w5.alloc o).grownBy w9 (Value.slice ao l.length c).ownBlock) (ha9 : (Value.slice ao l.length c).ownBlock = some g9 ∨ g9 = (w5.alloc o).heap.size) :
    (Np lo (w9.setCell ⟨g, 3, none⟩ (.slice (some ⟨g9, 0, none⟩) m c9)) g op t n (l ++ xs) a ∧ Mv w5 (w9.setCell ⟨g, 3, none⟩ (.slice (some ⟨g9, 0, none⟩) m c9)) (fun q => lo ≤ q)) ∧ w9.cell? ⟨g, 3, none⟩ = some (.slice ao l.length c) ∧ w9.frozen? ⟨g, 3, none⟩ = false := by
  obtain ⟨hlo, hg, ho, hv, hl, -⟩ := h
  have hgl := lt_of_block hg
  have hsz : (w5.alloc o).heap.size = w5.heap.size + 1 := Array.size_push ..
  have hm9 : Mv w5 w9 (fun q => (Value.slice ao l.length c).ownBlock = some q) := ((Mv.refl w5 (fun q => (Value.slice ao l.length c).ownBlock = some q)).later (below_alloc w5 o)).grown hg9 (fun q _ e => e)
  have hs9 : Mv w9 (w9.setCell ⟨g, 3, none⟩ (.slice (some ⟨g9, 0, none⟩) m c9)) (fun q => q = g) := (Mv.refl w9 (fun q => q = g)).set (g := g) rfl _ _
  have hg9g : lo ≤ g9 ∧ g9 ≠ g := by
    rcases ha9 with e | e
    · exact hv _ e
    · omega
  have h9 := hm9.at hg (fun e => (hv g e).2 rfl)
  refine ⟨⟨⟨hlo, _, ps ++ qs, heap_setCell_same w9 g 3 _ 51 _ h9, hs9.own (by rw [hm]; exact ho9) (fun q e (e2 : q = g) => ?_), fun q e => ?_, ?_⟩, ?_⟩, ?_, frozen_of_row w9 g 3 _ 51 h9⟩
  · have e' : g9 = q := Option.some.inj e
    omega
  · have e' : g9 = q := Option.some.inj e
    omega
  · refine Nds.mv hs9 (fun q hq (e : q = g) => hq.2.1 e) _ _ (Nds.mono (fun q hq => ⟨hq.1.1, hq.1.2.1, fun e => ?_⟩) _ _ (Nds.mv hm9 (fun q hq e => hq.1.2.2 e) _ _ (Nds.tight _ _ (Nds.append hl hx))))
    have e' : g9 = q := Option.some.inj e
    rcases ha9 with c | c
    · exact hq.1.2.2 (e' ▸ c)
    · have := hq.2
      omega
  · exact (hm9.mono (fun q _ e => (hv q e).1)).trans hs9 (fun q _ (e : q = g) => by show lo ≤ q; omega)
  · rw [cell_of_row w9 g _ _ 51 (0, 0) h9]
    rfl
end
/-- As calls_sub, of what is said from an earlier world on. -/
theorem calls_subN {α β : Type} {P : α → Value → World → Prop} {r : R β} {sp : R α} {f : α → S → R β} {W Wc : World} {B k : Nat} {ws : List ByteArray} {fn : Nat} {args : Array Value} {Q : Ending → World → Prop}
    (hr : r = sp.bind f) (hne : r ≠ .out) (J : sp ≠ .out → Calls Tryz.prog fn args Wc (Out P W B k ws sp))
    (hno : ∀ a er e w', r = .no a er → Pn W k a er e w' → Q e w')
    (hok : ∀ x s v w', sp = .ok x s → r = f x s → P x v w' → Rd w' B k ws s → Mv W w' (fun j => j = k) → Q (.returned v) w') : Calls Tryz.prog fn args Wc Q := by
  cases h : sp with
  | out => exact absurd (by rw [hr, h]; rfl) hne
  | no a er =>
    have J := J (by rw [h]; intro e; cases e)
    rw [h] at J
    exact J.mono (fun e w' hp => hno a er e w' (by rw [hr, h]; rfl) hp)
  | ok x s =>
    have J := J (by rw [h]; intro e; cases e)
    rw [h] at J
    refine J.mono ?_
    rintro e w' ⟨v, rfl, h1, h2, h3⟩
    exact hok x s v w' h (by rw [hr, h]; rfl) h1 h2 h3
end Go.Proofs.YtmfoehaeejhlpaaGreatDoor

/-
  The reader: statements that fill a node, the short ones.
-/
namespace Go.Proofs.YtmfoehaeejhlpaaGreatDoor
open Go.RowKit Yn
set_option maxRecDepth 100000
/-- A node takes one more. -/
def isFill (lo g op : Nat) (t : ByteArray) (z : Int) (l : List Tree) (a : Nat) : Tree → Value → World → Prop := fun x v w => v = .tuple #[] ∧ Np lo w g op t z (l ++ [x]) a
/-- A node takes more. -/
def isFills (lo g op : Nat) (t : ByteArray) (z : Int) (l : List Tree) (a : Nat) : List Tree → Value → World → Prop := fun xs v w => v = .tuple #[] ∧ Np lo w g op t z (l ++ xs) a
/-- A node is whole. -/
def isNode (lo g : Nat) : Tree → Value → World → Prop := fun T v w => v = .tuple #[] ∧ match T with | .mk op t z l a => Np lo w g op t z l a
theorem bind_assoc {α β γ : Type} (r : R α) (f : α → S → R β) (g : β → S → R γ) : (r.bind f).bind g = r.bind fun x s => (f x s).bind g := by
  cases r <;> rfl
theorem end_eq {β : Type} (s : S) (f : S → R β) : ((take cSemi s).bind fun _ s => f s) = ((take cSemi s).bind fun _ s => .ok () s).bind fun _ s => f s := by
  rw [bind_assoc]
  rfl
theorem end_any {W : World} {B k : Nat} {ws : List ByteArray} {s : S} (hR : Rd W B k ws s) (v : Value) : Calls Tryz.prog 191 #[.pointer (some ⟨k, 0, none⟩), v] W (Out isNone W B k ws ((take cSemi s).bind fun _ s => .ok () s)) := by
  obtain ⟨r, hr⟩ : ∃ r, r = (take cSemi s).bind fun _ s => R.ok () s := ⟨_, rfl⟩
  rw [← hr]
  have H := hide hR
  have HE := hide hr
  have HNE : Hid (r ≠ .out) := by
    unfold Hid
    rw [hr]
    have := take_out (x := cSemi) (s := s)
    revert this
    cases take cSemi s with
    | ok _ _ => intro _ h; cases h
    | no _ _ => intro _ h; cases h
    | out => intro h; exact absurd rfl h
  clear hR hr
  go_enter Tryz.func191, Tryz.ntmps191
  go_wp2_with fail
  refine calls_sub HE.out HNE.out (Mv.refl _ _) (fun h => take_any H.out cSemi (by decide)) (by (intro a er e w' hE hp; have hp2 := hp; obtain ⟨q, hq1, -⟩ := hp; subst hq1; subst hE; exact ⟨rfl, hp2⟩)) ?_
  intro x1 s1 v1 w1 hq hr hv hR hm hM
  have E1 := hide hr
  have R1 := hide hR
  have M1 := hide hM
  subst hv
  clear hq hr hR hm hM
  go_wp2_with fail
  go_end0
  have ER := E1.out
  subst ER
  exact ⟨_, rfl, rfl, R1.out, M1.out⟩
set_option maxHeartbeats 8000000 in
theorem tail_any {n : Nat} (hc : Cc n) {W W1 : World} {B k g op a : Nat} {t : ByteArray} {z : Int} {l : List Tree} {ws : List ByteArray} {s : S} (hk0 : k < W.heap.size) (hM : Mv W W1 (fun j => j = k)) (hR : Rd W1 B k ws s) (hN : Np W.heap.size W1 g op t z l a) (hl : l.length ≤ 2000000) {r : R Tree} (hr : r = Yn.tail ws n s) (hne : r ≠ .out) : Calls Tryz.prog 192 #[.pointer (some ⟨k, 0, none⟩), .pointer (some ⟨g, 0, none⟩)] W1 (Out (isFill W.heap.size g op t z l a) W B k ws r) := by
  obtain ⟨i0, hi0, hz0, hz1, hz2⟩ := info_parts infoN
  have H := hide hR
  have M0 := hide hM
  have N0 := hide hN
  have HNE := hide hne
  have HE := hide hr
  clear hR hM hN hne hr
  have HC := hide hc
  clear hc
  unfold Yn.tail at HE
  go_enter Tryz.func192, Tryz.ntmps192
  have nd := N0.out.later (below_drew W1)
  obtain ⟨ao, c7, ps7, nv⟩ := nd.nv
  have NV1 := hide nv
  have C1 := nv.cell
  clear nd nv
  go_upto_region 0 with fail
  refine wp_region_late (J := fun i => i != 11) (S := fun Wq => Wq.cell? ⟨g, 3, none⟩ = some (.slice ao l.length c7)) (by kernel_rfl) C1 (fun hHeld => ?_)
  refine' wpAnyJ_takeW (i := 0) (oi := { dst := some 4, op := Op.move (Operand.tmp 1), type := 23, pos := "statement.go:102", after := #[], guard := none }) (v := _) rfl (by kernel_rfl) (by kernel_rfl) (by kernel_rfl) (fun _ _ _ h => h) (Or.inl ⟨by rfl, ?hyTa1⟩) ?reTa1
  case hyTa1 => (intro W hSw; (try dsimp only at hSw); go_simp; try with_reducible rfl)
  try simp only [Act.put, List.setIfInBounds_toArray, List.set_cons_zero, List.set_cons_succ]
  refine' wpAnyJ_takeW (i := 1) (oi := { dst := some 5, op := Op.move (Operand.tmp 1), type := 23, pos := "statement.go:102", after := #[], guard := none }) (v := _) rfl (by kernel_rfl) (by kernel_rfl) (by kernel_rfl) (fun _ _ _ h => h) (Or.inl ⟨by rfl, ?hyTa2⟩) ?reTa2
  case hyTa2 => (intro W hSw; (try dsimp only at hSw); go_simp; try with_reducible rfl)
  try simp only [Act.put, List.setIfInBounds_toArray, List.set_cons_zero, List.set_cons_succ]
  refine' wpAnyJ_takeW (i := 2) (oi := { dst := some 6, op := Op.nilCheck (Operand.tmp 5), type := 0, pos := "statement.go:102", after := #[{ on := 1, ground := Ground.data }], guard := none }) (v := _) rfl (by kernel_rfl) (by kernel_rfl) (by kernel_rfl) (fun _ _ _ h => h) (Or.inl ⟨by rfl, ?hyTa3⟩) ?reTa3
  case hyTa3 => (intro W hSw; (try dsimp only at hSw); go_simp; try with_reducible rfl)
  try simp only [Act.put, List.setIfInBounds_toArray, List.set_cons_zero, List.set_cons_succ]
  refine' wpAnyJ_takeW (i := 3) (oi := { dst := some 7, op := Op.fieldAddr 51 (Operand.tmp 6) 3, type := 0, pos := "statement.go:102", after := #[{ on := 2, ground := Ground.data }], guard := none }) (v := _) rfl (by kernel_rfl) (by kernel_rfl) (by kernel_rfl) (fun _ _ _ h => h) (Or.inl ⟨by rfl, ?hyTa4⟩) ?reTa4
  case hyTa4 => (intro W hSw; (try dsimp only at hSw); go_simp; try with_reducible rfl)
  try simp only [Act.put, List.setIfInBounds_toArray, List.set_cons_zero, List.set_cons_succ]
  refine' wpAnyJ_take (i := 4) (oi := { dst := some 8, op := Op.load 49 (Operand.tmp 7), type := 49, pos := "statement.go:102", after := #[{ on := 3, ground := Ground.data }], guard := none }) (v := _) rfl (by kernel_rfl) (by kernel_rfl) (by kernel_rfl) (by kernel_rfl) (fun _ _ _ h => h) (Or.inl ⟨by rfl, ?hyTa5⟩) (by assumption) ?reTa5
  case hyTa5 => (intro W hSw; (try dsimp only at hSw); go_simp; try with_reducible rfl)
  try simp only [Act.put, List.setIfInBounds_toArray, List.set_cons_zero, List.set_cons_succ]
  refine' wpAnyJ_takeW (i := 5) (oi := { dst := some 9, op := Op.move (Operand.tmp 0), type := 56, pos := "statement.go:102", after := #[], guard := none }) (v := _) rfl (by kernel_rfl) (by kernel_rfl) (by kernel_rfl) (fun _ _ _ h => h) (Or.inl ⟨by rfl, ?hyTa6⟩) ?reTa6
  case hyTa6 => (intro W hSw; (try dsimp only at hSw); go_simp; try with_reducible rfl)
  try simp only [Act.put, List.setIfInBounds_toArray, List.set_cons_zero, List.set_cons_succ]
  refine wpAnyJ_ready (rs := [6]) (by kernel_rfl) (by simp) ?_
  refine AllReadyJ.cons (o := { dst := some 10, op := Op.call { callee := Callee.value (Operand.func 201), args := #[Operand.tmp 9], argTypes := #[56] }, type := 23, pos := "statement.go:102", after := #[{ on := 5, ground := Ground.data }], guard := none }) rfl (fun K hK => ?_) AllReadyJ.nil
  go_simp
  go_at_call 201
  refine calls_sub HE.out HNE.out (M0.out.later (below_drew W1)) (fun h => HC.out _ _ _ _ _ (H.out.later (below_drew W1)) h) (by (intro a er e w' hE hp; have hp2 := hp; obtain ⟨q, hq1, -⟩ := hp; subst hq1; subst hE; exact ⟨rfl, hp2⟩)) ?_
  intro x2 s2 v2 w2 hq hr hv hR hm hM
  have E2 := hide hr
  have R2 := hide hR
  have M2 := hide hM
  have hsz2 : W1.heap.size ≤ w2.heap.size := hm.size
  obtain ⟨g2, rfl⟩ := Nd.ptr hv
  have T2 := hide (Nd.tight _ _ hv)
  have NV2 := hide (NV1.out.mvk hm hk0)
  clear hq hr hR hm hM hv
  clear HE H M0
  have C2 := NV2.out.cell
  have CB := (NV2.out.later (below_alloc w2 (.cells #[.pointer (some ⟨g2, 0, none⟩)] 23))).cell
  have hcp := NV2.out.cap
  clear hHeld
  go_simp
  refine hK.out _ _ (fun _ _ => C2) ?_
  clear hK K
  try simp only [Act.put, List.setIfInBounds_toArray, List.set_cons_zero, List.set_cons_succ]
  refine wpAnyJ_ready (rs := [7]) (by kernel_rfl) (by simp) ?_
  refine AllReadyJ.cons (o := { dst := some 11, op := Op.buildSlice 49 1 #[(0, Operand.tmp 10)], type := 49, pos := "statement.go:102", after := #[{ on := 6, ground := Ground.data }], guard := none }) rfl (fun K hK => ?_) AllReadyJ.nil
  go_simp
  refine hK.out _ _ (fun _ _ => CB) ?_
  clear hK K
  try simp only [Act.put, List.setIfInBounds_toArray, List.set_cons_zero, List.set_cons_succ]
  refine wpAnyJ_ready (rs := [8]) (by kernel_rfl) (by simp) ?_
  refine AllReadyJ.cons (o := { dst := some 12, op := Op.call { callee := Callee.builtin Builtin.append, args := #[Operand.tmp 8, Operand.tmp 11], argTypes := #[49, 49] }, type := 49, pos := "statement.go:102", after := #[{ on := 4, ground := Ground.data }, { on := 7, ground := Ground.data }, { on := 6, ground := Ground.chain }], guard := none }) rfl (fun K hK => ?_) AllReadyJ.nil
  refine step_append_lies _ rfl (.tmp 8) (.tmp 11) 49 rfl 0 23 i0 (.pointer none) 1 8 und49 hi0 hz0 hz1 hz2 rfl (by decide) (.slice ao l.length c7) l.length (ps7) (by simp [Act.eval]) (NV2.out.own.alloc _) ⟨w2.heap.size, 0, none⟩ 1 1 [.pointer (some ⟨g2, 0, none⟩)] (by simp [Act.eval]) rfl (by intro j u hj; match j, hj with | 0, hj => simp at hj; subst hj; simp [Addr.add]) (by intro u hu; simp at hu; subst hu; rfl) (by omega) (by unfold maxLen; omega) (by omega) (Nat.zero_le _) _ rfl ?_
  intro g9 c9 w9 ho9 hg9 ha9 _
  have hx : Nds (fun q => W.heap.size ≤ q ∧ q ≠ g ∧ (Value.slice ao l.length c7).ownBlock ≠ some q) w2 [x2] [.pointer (some ⟨g2, 0, none⟩)] := by
    rw [Nds]
    refine ⟨_, _, rfl, Nd.mono (fun q hq => NV1.out.old (by have : W1.heap.size ≤ q := hq.1; omega)) _ _ T2.out, ?_⟩
    exact Nds.none
  have np := Nv.push NV2.out hx (by simp) ho9 hg9 ha9
  have CA := np.2.1
  have FA := np.2.2
  have N3 := hide np.1.1
  have R3 := hide (R2.out.mv np.1.2 (fun j (e : W.heap.size ≤ j) => by have := R2.out.1; omega))
  have M3 := hide (M2.out.trans np.1.2 (fun j hj (e : W.heap.size ≤ j) => by omega))
  clear np hx ho9 hg9 ha9 CB
  refine hK.out _ _ (fun _ _ => CA) ?_
  clear hK K
  try simp only [Act.put, List.setIfInBounds_toArray, List.set_cons_zero, List.set_cons_succ]
  refine' wpAnyJ_takeW (i := 9) (oi := { dst := some 13, op := Op.nilCheck (Operand.tmp 4), type := 0, pos := "statement.go:102", after := #[{ on := 0, ground := Ground.data }, { on := 0, ground := Ground.phase }, { on := 1, ground := Ground.phase }, { on := 2, ground := Ground.phase }, { on := 3, ground := Ground.phase }, { on := 4, ground := Ground.phase }, { on := 5, ground := Ground.phase }, { on := 6, ground := Ground.phase }, { on := 7, ground := Ground.phase }, { on := 8, ground := Ground.phase }], guard := none }) (v := _) rfl (by kernel_rfl) (by kernel_rfl) (by kernel_rfl) (fun _ _ _ h => h) (Or.inl ⟨by rfl, ?hyTa7⟩) ?reTa7
  case hyTa7 => (intro W hSw; (try dsimp only at hSw); go_simp; try with_reducible rfl)
  try simp only [Act.put, List.setIfInBounds_toArray, List.set_cons_zero, List.set_cons_succ]
  refine' wpAnyJ_takeW (i := 10) (oi := { dst := some 14, op := Op.fieldAddr 51 (Operand.tmp 13) 3, type := 0, pos := "statement.go:102", after := #[{ on := 9, ground := Ground.data }, { on := 0, ground := Ground.phase }, { on := 1, ground := Ground.phase }, { on := 2, ground := Ground.phase }, { on := 3, ground := Ground.phase }, { on := 4, ground := Ground.phase }, { on := 5, ground := Ground.phase }, { on := 6, ground := Ground.phase }, { on := 7, ground := Ground.phase }, { on := 8, ground := Ground.phase }], guard := none }) (v := _) rfl (by kernel_rfl) (by kernel_rfl) (by kernel_rfl) (fun _ _ _ h => h) (Or.inl ⟨by rfl, ?hyTa8⟩) ?reTa8
  case hyTa8 => (intro W hSw; (try dsimp only at hSw); go_simp; try with_reducible rfl)
  try simp only [Act.put, List.setIfInBounds_toArray, List.set_cons_zero, List.set_cons_succ]
  refine wpAnyJ_ready (rs := [11]) (by kernel_rfl) (by simp) ?_
  refine AllReadyJ.cons (o := { dst := none, op := Op.store 49 (Operand.tmp 14) (Operand.tmp 12), type := 0, pos := "statement.go:102", after := #[{ on := 10, ground := Ground.data }, { on := 8, ground := Ground.data }, { on := 8, ground := Ground.chain }, { on := 0, ground := Ground.phase }, { on := 1, ground := Ground.phase }, { on := 2, ground := Ground.phase }, { on := 3, ground := Ground.phase }, { on := 4, ground := Ground.phase }, { on := 5, ground := Ground.phase }, { on := 6, ground := Ground.phase }, { on := 7, ground := Ground.phase }, { on := 8, ground := Ground.phase }], guard := none }) rfl (fun K hK => ?_) AllReadyJ.nil
  go_simp
  refine hK.out _ _ (fun h => absurd h (by decide)) ?_
  clear hK K
  try simp only [Act.put, List.setIfInBounds_toArray, List.set_cons_zero, List.set_cons_succ]
  refine wpAnyJ_done (by kernel_rfl) ?_ _
  obtain ⟨w3, hw⟩ : ∃ X, X = w9.setCell ⟨g, 3, none⟩ (.slice (some ⟨g9, 0, none⟩) (l.length + 1) c9) := ⟨_, rfl⟩
  rw [← hw] at R3 M3 N3 ⊢
  clear hw CA FA
  clear R2 M2
  clear T2 C1 C2 NV1 NV2 N0
  go_wp2_with fail
  refine calls_sub (E2.out.trans (end_eq _ _)) HNE.out M3.out (fun h => end_any R3.out _) (by (intro a er e w' hE hp; have hp2 := hp; obtain ⟨q, hq1, -⟩ := hp; subst hq1; subst hE; exact ⟨rfl, hp2⟩)) ?_
  intro x4 s4 v4 w4 hq hr hv hR hm hM
  have E4 := hide hr
  have R4 := hide hR
  have M4 := hide hM
  have hsz4 : w3.heap.size ≤ w4.heap.size := hm.size
  have N4 := hide (N3.out.mvk hm hk0)
  have hgl4 := N3.out.lt
  subst hv
  clear hq hr hR hm hM
  clear E2 R3 M3 N3
  go_wp2_with fail
  go_end0
  have ER := E4.out
  subst ER
  exact ⟨_, rfl, ⟨rfl, N4.out⟩, R4.out, M4.out⟩
end Go.Proofs.YtmfoehaeejhlpaaGreatDoor
