import Derived.Test.YtmfoehaeejhlpaaGreatDoorGaBA
/-
  What is well formed: the whole.
-/
namespace Go.Proofs.YtmfoehaeejhlpaaGreatDoor
open Go.RowKit Yn
set_option maxRecDepth 100000
mutual
theorem fits_all : ∀ (T : Tree) (b : Nat), wfT T b → FW T b
  | .mk op t n l a, b, h => by
    rw [wfT] at h
    obtain ⟨h1, h2, h3, h4, h5, h6, h7⟩ := h
    have hv := fits_alls l _ h7
    by_cases e5 : op = 5
    · subst e5
      exact fits5 h1 h2 h4 h5 h6 hv
    · by_cases e30 : op = 30
      · subst e30
        exact fits30 (h3 rfl) h1 h2 h4 h5 h6 hv
      · exact fits_ e5 e30 h1 h2 h4 h5 h6 hv
theorem fits_alls : ∀ (l : List Tree) (b : Nat), wfTs l b → ∀ i (h : i < l.length), FW l[i] b
  | [], _, _, i, h => absurd h (by simp)
  | t :: ts, b, h, i, hi => by
    rw [wfTs] at h
    cases i with
    | zero => exact fits_all t b h.1
    | succ i => exact fits_alls ts b h.2 i (by simpa using hi)
end
set_option maxHeartbeats 4000000 in
theorem wf_w {t : ByteArray} {n : Int} {l : List Tree} {a : Nat} {W : World} {v : Value} (hnd : Nd (fun q => q < W.heap.size) W (.mk 1 t n l a) v) (hK : Kd W) (hwf : wfT (.mk 1 t n l a) 0) (hsz : szT (.mk 1 t n l a) ≤ 100000) : Calls Tryz.prog 32 #[v] W fun e w' => e = .returned (.bool true) ∧ Below W.heap.size W w' := by
  obtain ⟨gn, ao, c, gl, gs, rfl, hce, -, -⟩ := nd_open hnd
  have J0 := hide (Le.words_any W hK.2)
  obtain ⟨w2, hw2⟩ : ∃ X, X = (W.alloc (.cells Le.wsL.toArray 9)).alloc (.cells #[.slice (some ⟨W.heap.size, 0, none⟩) 26 26, .int .i64 0] 117) := ⟨_, rfl⟩
  obtain ⟨n1, n2, n3⟩ := two_new W (.cells Le.wsL.toArray 9) (.cells #[.slice (some ⟨W.heap.size, 0, none⟩) 26 26, .int .i64 0] 117)
  rw [← hw2] at n1 n2 n3
  have JJ : Hid (Jd W.heap.size w2 (W.heap.size + 1) W.heap.size 0) := ⟨by omega, by omega, n2, n1⟩
  have B2 := hide n3
  have JF := hide (fits_all _ 0 hwf W.heap.size (W.heap.size + 1) W.heap.size 0 w2 _ JJ.out (hnd.below n3) (fun w' h => hK.below (n3.trans h)) (by omega))
  have C2 := hide (hce.below n3)
  obtain ⟨-, d0, d1, d2, d3⟩ := C2.out
  clear hnd hK hwf hsz hce n1 n2 n3
  go_enter Tryz.func32, Tryz.ntmps32
  go_wp2_with fail
  refine J0.out.mono ?_
  rintro e w1 ⟨rfl, rfl⟩
  clear J0
  go_upto_region 2 with fail
  rw [← hw2]
  clear hw2
  go_wp2_with fail
  refine JF.out.mono ?_
  rintro e w3 ⟨rfl, -, hm⟩
  have BF : Hid (Below W.heap.size W w3) := B2.out.trans (hm.below (by have := B2.out.size; omega) (fun q e => by omega))
  clear hm JF
  go_wp2_with fail
  go_ret
  exact ⟨rfl, BF.out⟩
end Go.Proofs.YtmfoehaeejhlpaaGreatDoor

/-
  What writes: expressions.
-/
namespace Go.Proofs.YtmfoehaeejhlpaaGreatDoor
open Go.RowKit Yn
set_option maxRecDepth 100000
def nilT : Tree := .mk 0 (bs []) 0 [] 0
/-- How much an expression binds. -/
def stren : Tree → Nat | .mk op t _ _ _ => if op = 35 then 0 else if op = 33 then binding t else 7
def opdB (least s : Nat) (x : List UInt8) : List UInt8 := if least ≤ s then x else [40] ++ x ++ [41]
def exB (op : Nat) (t : ByteArray) (n : Int) (l : List Tree) (c : List (List UInt8)) : List UInt8 :=
  if op = 30 then Lib.itoa n
  else if op = 31 ∨ op = 38 then t.data.toList
  else if op = 32 then t.data.toList ++ [46] ++ (txT (l.getD 0 nilT)).data.toList
  else if op = 33 then opdB (binding t) (stren (l.getD 0 nilT)) (c.getD 0 []) ++ ([32] ++ t.data.toList ++ [32]) ++ opdB (binding t + 1) (stren (l.getD 1 nilT)) (c.getD 1 [])
  else if op = 34 then t.data.toList ++ opdB 7 (stren (l.getD 0 nilT)) (c.getD 0 [])
  else if op = 35 then opdB 1 (stren (l.getD 0 nilT)) (c.getD 0 []) ++ [32, 63, 32] ++ c.getD 1 [] ++ [32, 58, 32] ++ c.getD 2 []
  else if op = 36 then (t.data.toList ++ [40]) ++ comJ c ++ [41]
  else if op = 37 then [104, 97, 115, 40] ++ t.data.toList ++ [41]
  else []
mutual
/-- An expression, written. -/
def prE : Tree → List UInt8 | .mk op t n l _ => exB op t n l (prEs l)
def prEs : List Tree → List (List UInt8) | [] => [] | t :: ts => prE t :: prEs ts
end
theorem prEs_eq : ∀ l : List Tree, prEs l = l.map prE
  | [] => by rw [prEs]; rfl
  | t :: ts => by rw [prEs, prEs_eq ts]; rfl
theorem prEs_at {l : List Tree} {i : Nat} (h : i < l.length) : (prEs l).getD i [] = prE l[i] := by
  rw [prEs_eq, List.getD_eq_getElem?_getD, List.getElem?_map, List.getElem?_eq_getElem h]
  rfl
theorem getD_at {l : List Tree} {i : Nat} (h : i < l.length) : l.getD i nilT = l[i] := by
  rw [List.getD_eq_getElem?_getD, List.getElem?_eq_getElem h]
  rfl
/-- Numbers are written as they are. -/
def Pf (B : Nat) (w : World) : Prop := ∀ w', Below B w w' → ∀ n : Int, -9223372036854775808 ≤ n → n ≤ 9223372036854775807 → Calls Tryz.prog 169 #[.int .i64 n, .int .i64 10] w' fun e w'' => e = .returned (.string ⟨(Lib.itoa n).toArray⟩) ∧ Below w'.heap.size w' w''
theorem Pf.below {B : Nat} {w w' : World} (h : Pf B w) (hb : Below B w w') : Pf B w' := fun w2 h2 => h w2 (hb.trans h2)
/-- An expression is written so. -/
def EW (T : Tree) : Prop := ∀ (B g : Nat) (l : List UInt8) (w : World) (v : Value), Bt B g l w → Nd (fun q => q < B) w T v → Pf B w → Sz l (prE T) → Calls Tryz.prog 149 #[.pointer (some ⟨g, 0, none⟩), v] w (Wrt B g l (prE T) w)
theorem ch_at {B : Nat} {w : World} {ao : Option Addr} {l : List Tree} {gl : Nat} {gs : List Nat} (h : Ch B w ao l gl gs) (i : Nat) (hi : i < l.length) : ∃ gi, ∀ w', Below B w w' → w'.cell? ⟨gl, i, none⟩ = some (.pointer (some ⟨gi, 0, none⟩)) ∧ Nd (fun q => q < B) w' l[i] (.pointer (some ⟨gi, 0, none⟩)) :=
  ⟨gs[i]'(by rw [h.1]; exact hi), fun _ hb => (h.below hb).2.2 i hi (by rw [h.1]; exact hi)⟩
theorem bind_le (t : ByteArray) : binding t ≤ 6 := by
  unfold binding
  repeat' split
  all_goals omega
set_option maxHeartbeats 2000000 in
theorem stren_any {B : Nat} {T : Tree} {w : World} {v : Value} (hnd : Nd (fun q => q < B) w T v) : Calls Tryz.prog 182 #[v] w fun e w' => e = .returned (.int .i64 (stren T : Int)) ∧ w' = w := by
  obtain ⟨op, t, n, l, a⟩ := T
  obtain ⟨gn, ao, c, gl, gs, rfl, ⟨-, d0, d1, -, -⟩, -, -⟩ := nd_open hnd
  clear hnd
  by_cases h1 : op = 35
  · subst h1
    go_enter Tryz.func182, Tryz.ntmps182
    go_wp2_with fail
    go_ret
    exact ⟨rfl, rfl⟩
  · have k1 : ¬ (op : Int) = 35 := by omega
    by_cases h2 : op = 33
    · subst h2
      have J := hide (binding_any t w)
      go_enter Tryz.func182, Tryz.ntmps182
      go_wp2_with fail
      refine J.out.mono ?_
      rintro e w2 ⟨rfl, rfl⟩
      go_wp2_with fail
      go_ret
      exact ⟨rfl, rfl⟩
    · have k2 : ¬ (op : Int) = 33 := by omega
      have E : Hid (stren (.mk op t n l a) = 7) := by simp [Hid, stren, h1, h2]
      rw [E.out]
      go_enter Tryz.func182, Tryz.ntmps182
      go_wp2_with fail
      go_ret
      exact ⟨rfl, rfl⟩
set_option maxHeartbeats 2000000 in
theorem opd_w {T : Tree} (h : EW T) (least : Nat) {B g : Nat} {l : List UInt8} {w : World} {v : Value} (hb : Bt B g l w) (hnd : Nd (fun q => q < B) w T v) (hpf : Pf B w) (hz : Sz l (opdB least (stren T) (prE T))) : Calls Tryz.prog 170 #[.pointer (some ⟨g, 0, none⟩), v, .int .i64 (least : Int)] w (Wrt B g l (opdB least (stren T) (prE T)) w) := by
  obtain ⟨gv, rfl⟩ := hnd.ptr
  have J0 := hide (stren_any hnd)
  by_cases hs : least ≤ stren T
  · have e0 : opdB least (stren T) (prE T) = prE T := if_pos hs
    rw [e0] at hz ⊢
    have J1 := hide (h B g l w _ hb hnd hpf hz)
    have k1 : (least : Int) ≤ (stren T : Int) := by omega
    clear e0 hz hb hpf hnd h
    go_enter Tryz.func170, Tryz.ntmps170
    go_wp2_with fail
    refine J0.out.mono ?_
    rintro e w2 ⟨rfl, rfl⟩
    clear J0
    go_wp2_with fail
    refine J1.out.mono ?_
    rintro e w2 ⟨rfl, h2⟩
    have H2 := hide h2
    clear h2 J1
    go_wp2_with fail
    go_end0
    exact ⟨rfl, H2.out⟩
  · have e0 : opdB least (stren T) (prE T) = [40] ++ prE T ++ [41] := if_neg hs
    rw [e0] at hz ⊢
    have k1 : ¬ (least : Int) ≤ (stren T : Int) := by omega
    have J1 := hide (put1 ⟨#[40]⟩ hb hz.left.left)
    have J2 : Hid (∀ w1, Wo B g (l ++ [40]) w w1 → Calls Tryz.prog 149 #[.pointer (some ⟨g, 0, none⟩), .pointer (some ⟨gv, 0, none⟩)] w1 (Wrt B g (l ++ [40]) (prE T) w1)) := fun w1 h1 => h B g _ w1 _ h1.1 (hnd.below h1.2.1) (hpf.below h1.2.1) hz.left.right
    have J3 : Hid (∀ w2, Wo B g (l ++ [40] ++ prE T) w w2 → Calls Tryz.prog 57 #[.pointer (some ⟨g, 0, none⟩), .slice (some ⟨w2.heap.size, 0, none⟩) 1 1] (w2.alloc (.cells #[.string ⟨#[41]⟩] 9)) (Wrt B g (l ++ [40] ++ prE T) [41] w2)) := fun w2 h2 => put1 ⟨#[41]⟩ h2.1 (by
      have := hz
      unfold Sz at this ⊢
      simp only [List.length_append] at this ⊢
      exact (by show _ + [41].length ≤ _; omega))
    clear e0 hz hb hpf hnd h
    go_enter Tryz.func170, Tryz.ntmps170
    go_wp2_with fail
    refine J0.out.mono ?_
    rintro e w2 ⟨rfl, rfl⟩
    clear J0
    go_wp2_with fail
    refine J1.out.mono ?_
    rintro e w1 ⟨rfl, h1⟩
    have H1 : Hid (Wo B g (l ++ [40]) w2 w1) := h1
    have J := hide (J2.out w1 h1)
    clear h1 J1 J2
    go_wp2_with fail
    refine J.out.mono ?_
    rintro e w3 ⟨rfl, h3⟩
    have H3 := hide (H1.out.trans h3)
    have J := hide (J3.out w3 H3.out)
    clear h3 J3 H1
    go_wp2_with fail
    refine J.out.mono ?_
    rintro e w4 ⟨rfl, h4⟩
    have H4 : Hid (Wo B g (l ++ ([40] ++ prE T ++ [41])) w2 w4) := by
      have := H3.out.trans h4
      simpa only [List.append_assoc, Hid] using this
    clear h4 J H3
    go_wp2_with fail
    go_end0
    exact ⟨rfl, H4.out⟩
end Go.Proofs.YtmfoehaeejhlpaaGreatDoor

/-
  What writes: expressions, way by way.
-/
namespace Go.Proofs.YtmfoehaeejhlpaaGreatDoor
open Go.RowKit Yn
set_option maxRecDepth 100000
set_option maxHeartbeats 4000000 in
theorem ex31 {t : ByteArray} {n : Int} {l : List Tree} {a : Nat} : EW (.mk 31 t n l a) := by
  intro B g lw w v hb hnd hpf hz
  obtain ⟨gn, ao, c, gl, gs, rfl, hce, hcap, hch⟩ := nd_open hnd
  have ET : prE (.mk 31 t n l a) = t.data.toList := by
    rw [prE]
    rfl
  rw [ET] at hz ⊢
  have CE : Hid (∀ w', Below B w w' → Ce B w' gn 31 t n ao l.length c) := fun w' h => hce.below h
  have J0 : Hid (∀ w', Wo B g (lw) w w' → Calls Tryz.prog 57 #[.pointer (some ⟨g, 0, none⟩), .slice (some ⟨w'.heap.size, 0, none⟩) 1 1] (w'.alloc (.cells #[.string t] 9)) (Wrt B g (lw) t.data.toList w')) := fun w' h => put1 t h.1 (show Sz (lw) t.data.toList from (by
      have := hz
      unfold Sz at this ⊢
      (try simp only [List.length_append] at this ⊢)
      omega))
  have H0 : Hid (Wo B g lw w w) := Wo.refl hb
  clear hnd hce hch hpf hz hb ET
  go_enter Tryz.func149, Tryz.ntmps149
  obtain ⟨-, d0, d1, d2, d3⟩ := CE.out w H0.out.2.1
  have J := hide (J0.out w H0.out)
  clear J0
  go_wp2_with fail
  refine J.out.mono ?_
  rintro e w1 ⟨rfl, h⟩
  have H1 := hide (H0.out.trans h)
  clear h J H0 d0 d1 d2 d3
  go_wp2_with fail
  go_end0
  exact ⟨rfl, by have h := H1.out; first | exact h | (simp only [List.append_assoc] at h ⊢; exact h) | (simp only [List.append_assoc, List.cons_append, List.nil_append] at h ⊢; exact h)⟩
set_option maxHeartbeats 4000000 in
theorem ex38 {t : ByteArray} {n : Int} {l : List Tree} {a : Nat} : EW (.mk 38 t n l a) := by
  intro B g lw w v hb hnd hpf hz
  obtain ⟨gn, ao, c, gl, gs, rfl, hce, hcap, hch⟩ := nd_open hnd
  have ET : prE (.mk 38 t n l a) = t.data.toList := by
    rw [prE]
    rfl
  rw [ET] at hz ⊢
  have CE : Hid (∀ w', Below B w w' → Ce B w' gn 38 t n ao l.length c) := fun w' h => hce.below h
  have J0 : Hid (∀ w', Wo B g (lw) w w' → Calls Tryz.prog 57 #[.pointer (some ⟨g, 0, none⟩), .slice (some ⟨w'.heap.size, 0, none⟩) 1 1] (w'.alloc (.cells #[.string t] 9)) (Wrt B g (lw) t.data.toList w')) := fun w' h => put1 t h.1 (show Sz (lw) t.data.toList from (by
      have := hz
      unfold Sz at this ⊢
      (try simp only [List.length_append] at this ⊢)
      omega))
  have H0 : Hid (Wo B g lw w w) := Wo.refl hb
  clear hnd hce hch hpf hz hb ET
  go_enter Tryz.func149, Tryz.ntmps149
  obtain ⟨-, d0, d1, d2, d3⟩ := CE.out w H0.out.2.1
  have J := hide (J0.out w H0.out)
  clear J0
  go_wp2_with fail
  refine J.out.mono ?_
  rintro e w1 ⟨rfl, h⟩
  have H1 := hide (H0.out.trans h)
  clear h J H0 d0 d1 d2 d3
  go_wp2_with fail
  go_end0
  exact ⟨rfl, by have h := H1.out; first | exact h | (simp only [List.append_assoc] at h ⊢; exact h) | (simp only [List.append_assoc, List.cons_append, List.nil_append] at h ⊢; exact h)⟩
set_option maxHeartbeats 4000000 in
theorem ex37 {t : ByteArray} {n : Int} {l : List Tree} {a : Nat} : EW (.mk 37 t n l a) := by
  intro B g lw w v hb hnd hpf hz
  obtain ⟨gn, ao, c, gl, gs, rfl, hce, hcap, hch⟩ := nd_open hnd
  have ET : prE (.mk 37 t n l a) = ([104, 97, 115, 40] : List UInt8) ++ t.data.toList ++ ([41] : List UInt8) := by
    rw [prE]
    rfl
  rw [ET] at hz ⊢
  have CE : Hid (∀ w', Below B w w' → Ce B w' gn 37 t n ao l.length c) := fun w' h => hce.below h
  have J0 : Hid (∀ w', Wo B g (lw) w w' → Calls Tryz.prog 57 #[.pointer (some ⟨g, 0, none⟩), .slice (some ⟨w'.heap.size, 0, none⟩) 3 3] (w'.alloc (.cells #[.string ⟨#[104, 97, 115, 40]⟩, .string t, .string ⟨#[41]⟩] 9)) (Wrt B g (lw) (([104, 97, 115, 40] : List UInt8) ++ t.data.toList ++ ([41] : List UInt8)) w')) := fun w' h => put3 ⟨#[104, 97, 115, 40]⟩ t ⟨#[41]⟩ h.1 (show Sz (lw) (([104, 97, 115, 40] : List UInt8) ++ t.data.toList ++ ([41] : List UInt8)) from (by
      have := hz
      unfold Sz at this ⊢
      (try simp only [List.length_append] at this ⊢)
      omega))
  have H0 : Hid (Wo B g lw w w) := Wo.refl hb
  clear hnd hce hch hpf hz hb ET
  go_enter Tryz.func149, Tryz.ntmps149
  obtain ⟨-, d0, d1, d2, d3⟩ := CE.out w H0.out.2.1
  have J := hide (J0.out w H0.out)
  clear J0
  go_wp2_with fail
  refine J.out.mono ?_
  rintro e w1 ⟨rfl, h⟩
  have H1 := hide (H0.out.trans h)
  clear h J H0 d0 d1 d2 d3
  go_wp2_with fail
  go_end0
  exact ⟨rfl, by have h := H1.out; first | exact h | (simp only [List.append_assoc] at h ⊢; exact h) | (simp only [List.append_assoc, List.cons_append, List.nil_append] at h ⊢; exact h)⟩
set_option maxHeartbeats 4000000 in
theorem ex34 {t : ByteArray} {n : Int} {l : List Tree} {a : Nat} (hl : 1 ≤ l.length) (e0 : EW l[0]) : EW (.mk 34 t n l a) := by
  intro B g lw w v hb hnd hpf hz
  obtain ⟨gn, ao, c, gl, gs, rfl, hce, hcap, hch⟩ := nd_open hnd
  obtain ⟨rfl, -⟩ := hch.2.1 (by omega)
  have ET : prE (.mk 34 t n l a) = t.data.toList ++ opdB 7 (stren l[0]) (prE l[0]) := by
    rw [← prEs_at (show 0 < l.length by omega)]
    rw [← getD_at (show 0 < l.length by omega)]
    rw [prE]
    rfl
  rw [ET] at hz ⊢
  have CE : Hid (∀ w', Below B w w' → Ce B w' gn 34 t n (some ⟨gl, 0, none⟩) l.length c) := fun w' h => hce.below h
  obtain ⟨g0, k0⟩ := ch_at hch 0 (by omega)
  have K0 : Hid (∀ w', Below B w w' → w'.cell? ⟨gl, 0, none⟩ = some (.pointer (some ⟨g0, 0, none⟩))) := fun w' h => (k0 w' h).1
  have hl0 : (0 : Int) < (l.length : Int) := by omega
  have J0 : Hid (∀ w', Wo B g (lw) w w' → Calls Tryz.prog 57 #[.pointer (some ⟨g, 0, none⟩), .slice (some ⟨w'.heap.size, 0, none⟩) 1 1] (w'.alloc (.cells #[.string t] 9)) (Wrt B g (lw) t.data.toList w')) := fun w' h => put1 t h.1 (show Sz (lw) t.data.toList from (by
      have := hz
      unfold Sz at this ⊢
      (try simp only [List.length_append] at this ⊢)
      omega))
  have J1 : Hid (∀ w', Wo B g (lw ++ t.data.toList) w w' → Calls Tryz.prog 170 #[.pointer (some ⟨g, 0, none⟩), .pointer (some ⟨g0, 0, none⟩), .int .i64 7] w' (Wrt B g (lw ++ t.data.toList) (opdB 7 (stren l[0]) (prE l[0])) w')) := fun w' h => opd_w e0 7 h.1 (k0 w' h.2.1).2 (hpf.below h.2.1) (show Sz (lw ++ t.data.toList) (opdB 7 (stren l[0]) (prE l[0])) from (by
      have := hz
      unfold Sz at this ⊢
      (try simp only [List.length_append] at this ⊢)
      omega))
  have H0 : Hid (Wo B g lw w w) := Wo.refl hb
  clear hnd hce hch hpf hz hb ET k0
  go_enter Tryz.func149, Tryz.ntmps149
  obtain ⟨-, d0, d1, d2, d3⟩ := CE.out w H0.out.2.1
  have x0 := K0.out w H0.out.2.1
  have J := hide (J0.out w H0.out)
  clear J0
  go_wp2_with fail
  refine J.out.mono ?_
  rintro e w1 ⟨rfl, h⟩
  have H1 := hide (H0.out.trans h)
  clear h J H0 d0 d1 d2 d3 x0
  obtain ⟨-, d0, d1, d2, d3⟩ := CE.out w1 H1.out.2.1
  have x0 := K0.out w1 H1.out.2.1
  have J := hide (J1.out w1 H1.out)
  clear J1
  go_wp2_with fail
  refine J.out.mono ?_
  rintro e w2 ⟨rfl, h⟩
  have H2 := hide (H1.out.trans h)
  clear h J H1 d0 d1 d2 d3 x0
  go_wp2_with fail
  go_end0
  exact ⟨rfl, by have h := H2.out; first | exact h | (simp only [List.append_assoc] at h ⊢; exact h) | (simp only [List.append_assoc, List.cons_append, List.nil_append] at h ⊢; exact h)⟩
set_option maxHeartbeats 4000000 in
theorem ex35 {t : ByteArray} {n : Int} {l : List Tree} {a : Nat} (hl : 3 ≤ l.length) (e0 : EW l[0]) (e1 : EW l[1]) (e2 : EW l[2]) : EW (.mk 35 t n l a) := by
  intro B g lw w v hb hnd hpf hz
  obtain ⟨gn, ao, c, gl, gs, rfl, hce, hcap, hch⟩ := nd_open hnd
  obtain ⟨rfl, -⟩ := hch.2.1 (by omega)
  have ET : prE (.mk 35 t n l a) = opdB 1 (stren l[0]) (prE l[0]) ++ ([32, 63, 32] : List UInt8) ++ prE l[1] ++ ([32, 58, 32] : List UInt8) ++ prE l[2] := by
    rw [← prEs_at (show 0 < l.length by omega), ← prEs_at (show 1 < l.length by omega), ← prEs_at (show 2 < l.length by omega)]
    rw [← getD_at (show 0 < l.length by omega)]
    rw [prE]
    rfl
  rw [ET] at hz ⊢
  have CE : Hid (∀ w', Below B w w' → Ce B w' gn 35 t n (some ⟨gl, 0, none⟩) l.length c) := fun w' h => hce.below h
  obtain ⟨g0, k0⟩ := ch_at hch 0 (by omega)
  have K0 : Hid (∀ w', Below B w w' → w'.cell? ⟨gl, 0, none⟩ = some (.pointer (some ⟨g0, 0, none⟩))) := fun w' h => (k0 w' h).1
  have hl0 : (0 : Int) < (l.length : Int) := by omega
  obtain ⟨g1, k1⟩ := ch_at hch 1 (by omega)
  have K1 : Hid (∀ w', Below B w w' → w'.cell? ⟨gl, 1, none⟩ = some (.pointer (some ⟨g1, 0, none⟩))) := fun w' h => (k1 w' h).1
  have hl1 : (1 : Int) < (l.length : Int) := by omega
  obtain ⟨g2, k2⟩ := ch_at hch 2 (by omega)
  have K2 : Hid (∀ w', Below B w w' → w'.cell? ⟨gl, 2, none⟩ = some (.pointer (some ⟨g2, 0, none⟩))) := fun w' h => (k2 w' h).1
  have hl2 : (2 : Int) < (l.length : Int) := by omega
  have J0 : Hid (∀ w', Wo B g (lw) w w' → Calls Tryz.prog 170 #[.pointer (some ⟨g, 0, none⟩), .pointer (some ⟨g0, 0, none⟩), .int .i64 1] w' (Wrt B g (lw) (opdB 1 (stren l[0]) (prE l[0])) w')) := fun w' h => opd_w e0 1 h.1 (k0 w' h.2.1).2 (hpf.below h.2.1) (show Sz (lw) (opdB 1 (stren l[0]) (prE l[0])) from (by
      have := hz
      unfold Sz at this ⊢
      (try simp only [List.length_append] at this ⊢)
      omega))
  have J1 : Hid (∀ w', Wo B g (lw ++ opdB 1 (stren l[0]) (prE l[0])) w w' → Calls Tryz.prog 57 #[.pointer (some ⟨g, 0, none⟩), .slice (some ⟨w'.heap.size, 0, none⟩) 1 1] (w'.alloc (.cells #[.string ⟨#[32, 63, 32]⟩] 9)) (Wrt B g (lw ++ opdB 1 (stren l[0]) (prE l[0])) ([32, 63, 32] : List UInt8) w')) := fun w' h => put1 ⟨#[32, 63, 32]⟩ h.1 (show Sz (lw ++ opdB 1 (stren l[0]) (prE l[0])) ([32, 63, 32] : List UInt8) from (by
      have := hz
      unfold Sz at this ⊢
      (try simp only [List.length_append] at this ⊢)
      omega))
  have J2 : Hid (∀ w', Wo B g (lw ++ opdB 1 (stren l[0]) (prE l[0]) ++ ([32, 63, 32] : List UInt8)) w w' → Calls Tryz.prog 149 #[.pointer (some ⟨g, 0, none⟩), .pointer (some ⟨g1, 0, none⟩)] w' (Wrt B g (lw ++ opdB 1 (stren l[0]) (prE l[0]) ++ ([32, 63, 32] : List UInt8)) (prE l[1]) w')) := fun w' h => e1 B g _ w' _ h.1 (k1 w' h.2.1).2 (hpf.below h.2.1) (show Sz (lw ++ opdB 1 (stren l[0]) (prE l[0]) ++ ([32, 63, 32] : List UInt8)) (prE l[1]) from (by
      have := hz
      unfold Sz at this ⊢
      (try simp only [List.length_append] at this ⊢)
      omega))
  have J3 : Hid (∀ w', Wo B g (lw ++ opdB 1 (stren l[0]) (prE l[0]) ++ ([32, 63, 32] : List UInt8) ++ prE l[1]) w w' → Calls Tryz.prog 57 #[.pointer (some ⟨g, 0, none⟩), .slice (some ⟨w'.heap.size, 0, none⟩) 1 1] (w'.alloc (.cells #[.string ⟨#[32, 58, 32]⟩] 9)) (Wrt B g (lw ++ opdB 1 (stren l[0]) (prE l[0]) ++ ([32, 63, 32] : List UInt8) ++ prE l[1]) ([32, 58, 32] : List UInt8) w')) := fun w' h => put1 ⟨#[32, 58, 32]⟩ h.1 (show Sz (lw ++ opdB 1 (stren l[0]) (prE l[0]) ++ ([32, 63, 32] : List UInt8) ++ prE l[1]) ([32, 58, 32] : List UInt8) from (by
      have := hz
      unfold Sz at this ⊢
      (try simp only [List.length_append] at this ⊢)
      omega))
  have J4 : Hid (∀ w', Wo B g (lw ++ opdB 1 (stren l[0]) (prE l[0]) ++ ([32, 63, 32] : List UInt8) ++ prE l[1] ++ ([32, 58, 32] : List UInt8)) w w' → Calls Tryz.prog 149 #[.pointer (some ⟨g, 0, none⟩), .pointer (some ⟨g2, 0, none⟩)] w' (Wrt B g (lw ++ opdB 1 (stren l[0]) (prE l[0]) ++ ([32, 63, 32] : List UInt8) ++ prE l[1] ++ ([32, 58, 32] : List UInt8)) (prE l[2]) w')) := fun w' h => e2 B g _ w' _ h.1 (k2 w' h.2.1).2 (hpf.below h.2.1) (show Sz (lw ++ opdB 1 (stren l[0]) (prE l[0]) ++ ([32, 63, 32] : List UInt8) ++ prE l[1] ++ ([32, 58, 32] : List UInt8)) (prE l[2]) from (by
      have := hz
      unfold Sz at this ⊢
      (try simp only [List.length_append] at this ⊢)
      omega))
  have H0 : Hid (Wo B g lw w w) := Wo.refl hb
  clear hnd hce hch hpf hz hb ET k0 k1 k2
  go_enter Tryz.func149, Tryz.ntmps149
  obtain ⟨-, d0, d1, d2, d3⟩ := CE.out w H0.out.2.1
  have x0 := K0.out w H0.out.2.1
  have x1 := K1.out w H0.out.2.1
  have x2 := K2.out w H0.out.2.1
  have J := hide (J0.out w H0.out)
  clear J0
  go_wp2_with fail
  refine J.out.mono ?_
  rintro e w1 ⟨rfl, h⟩
  have H1 := hide (H0.out.trans h)
  clear h J H0 d0 d1 d2 d3 x0 x1 x2
  obtain ⟨-, d0, d1, d2, d3⟩ := CE.out w1 H1.out.2.1
  have x0 := K0.out w1 H1.out.2.1
  have x1 := K1.out w1 H1.out.2.1
  have x2 := K2.out w1 H1.out.2.1
  have J := hide (J1.out w1 H1.out)
  clear J1
  go_wp2_with fail
  refine J.out.mono ?_
  rintro e w2 ⟨rfl, h⟩
  have H2 := hide (H1.out.trans h)
  clear h J H1 d0 d1 d2 d3 x0 x1 x2
  obtain ⟨-, d0, d1, d2, d3⟩ := CE.out w2 H2.out.2.1
  have x0 := K0.out w2 H2.out.2.1
  have x1 := K1.out w2 H2.out.2.1
  have x2 := K2.out w2 H2.out.2.1
  have J := hide (J2.out w2 H2.out)
  clear J2
  go_wp2_with fail
  refine J.out.mono ?_
  rintro e w3 ⟨rfl, h⟩
  have H3 := hide (H2.out.trans h)
  clear h J H2 d0 d1 d2 d3 x0 x1 x2
  obtain ⟨-, d0, d1, d2, d3⟩ := CE.out w3 H3.out.2.1
  have x0 := K0.out w3 H3.out.2.1
  have x1 := K1.out w3 H3.out.2.1
  have x2 := K2.out w3 H3.out.2.1
  have J := hide (J3.out w3 H3.out)
  clear J3
  go_wp2_with fail
  refine J.out.mono ?_
  rintro e w4 ⟨rfl, h⟩
  have H4 := hide (H3.out.trans h)
  clear h J H3 d0 d1 d2 d3 x0 x1 x2
  obtain ⟨-, d0, d1, d2, d3⟩ := CE.out w4 H4.out.2.1
  have x0 := K0.out w4 H4.out.2.1
  have x1 := K1.out w4 H4.out.2.1
  have x2 := K2.out w4 H4.out.2.1
  have J := hide (J4.out w4 H4.out)
  clear J4
  go_wp2_with fail
  refine J.out.mono ?_
  rintro e w5 ⟨rfl, h⟩
  have H5 := hide (H4.out.trans h)
  clear h J H4 d0 d1 d2 d3 x0 x1 x2
  go_wp2_with fail
  go_end0
  exact ⟨rfl, by have h := H5.out; first | exact h | (simp only [List.append_assoc] at h ⊢; exact h) | (simp only [List.append_assoc, List.cons_append, List.nil_append] at h ⊢; exact h)⟩
set_option maxHeartbeats 4000000 in
theorem ex33 {t : ByteArray} {n : Int} {l : List Tree} {a : Nat} (hl : 2 ≤ l.length) (e0 : EW l[0]) (e1 : EW l[1]) : EW (.mk 33 t n l a) := by
  intro B g lw w v hb hnd hpf hz
  obtain ⟨gn, ao, c, gl, gs, rfl, hce, hcap, hch⟩ := nd_open hnd
  obtain ⟨rfl, -⟩ := hch.2.1 (by omega)
  have ET : prE (.mk 33 t n l a) = opdB (binding t) (stren l[0]) (prE l[0]) ++ (([32] : List UInt8) ++ t.data.toList ++ ([32] : List UInt8)) ++ opdB (binding t + 1) (stren l[1]) (prE l[1]) := by
    rw [← prEs_at (show 0 < l.length by omega), ← prEs_at (show 1 < l.length by omega)]
    rw [← getD_at (show 0 < l.length by omega), ← getD_at (show 1 < l.length by omega)]
    rw [prE]
    rfl
  rw [ET] at hz ⊢
  have CE : Hid (∀ w', Below B w w' → Ce B w' gn 33 t n (some ⟨gl, 0, none⟩) l.length c) := fun w' h => hce.below h
  obtain ⟨g0, k0⟩ := ch_at hch 0 (by omega)
  have K0 : Hid (∀ w', Below B w w' → w'.cell? ⟨gl, 0, none⟩ = some (.pointer (some ⟨g0, 0, none⟩))) := fun w' h => (k0 w' h).1
  have hl0 : (0 : Int) < (l.length : Int) := by omega
  obtain ⟨g1, k1⟩ := ch_at hch 1 (by omega)
  have K1 : Hid (∀ w', Below B w w' → w'.cell? ⟨gl, 1, none⟩ = some (.pointer (some ⟨g1, 0, none⟩))) := fun w' h => (k1 w' h).1
  have hl1 : (1 : Int) < (l.length : Int) := by omega
  have hbl := bind_le t
  have hbc : ((binding t + 1 : Nat) : Int) = (binding t : Int) + 1 := by omega
  have J0 : Hid (∀ w', Wo B g (lw) w w' → Calls Tryz.prog 170 #[.pointer (some ⟨g, 0, none⟩), .pointer (some ⟨g0, 0, none⟩), .int .i64 (binding t : Int)] w' (Wrt B g (lw) (opdB (binding t) (stren l[0]) (prE l[0])) w')) := fun w' h => opd_w e0 (binding t) h.1 (k0 w' h.2.1).2 (hpf.below h.2.1) (show Sz (lw) (opdB (binding t) (stren l[0]) (prE l[0])) from (by
      have := hz
      unfold Sz at this ⊢
      (try simp only [List.length_append] at this ⊢)
      omega))
  have J1 : Hid (∀ w', Wo B g (lw ++ opdB (binding t) (stren l[0]) (prE l[0])) w w' → Calls Tryz.prog 57 #[.pointer (some ⟨g, 0, none⟩), .slice (some ⟨w'.heap.size, 0, none⟩) 3 3] (w'.alloc (.cells #[.string ⟨#[32]⟩, .string t, .string ⟨#[32]⟩] 9)) (Wrt B g (lw ++ opdB (binding t) (stren l[0]) (prE l[0])) (([32] : List UInt8) ++ t.data.toList ++ ([32] : List UInt8)) w')) := fun w' h => put3 ⟨#[32]⟩ t ⟨#[32]⟩ h.1 (show Sz (lw ++ opdB (binding t) (stren l[0]) (prE l[0])) (([32] : List UInt8) ++ t.data.toList ++ ([32] : List UInt8)) from (by
      have := hz
      unfold Sz at this ⊢
      (try simp only [List.length_append] at this ⊢)
      omega))
  have J2 : Hid (∀ w', Wo B g (lw ++ opdB (binding t) (stren l[0]) (prE l[0]) ++ (([32] : List UInt8) ++ t.data.toList ++ ([32] : List UInt8))) w w' → Calls Tryz.prog 170 #[.pointer (some ⟨g, 0, none⟩), .pointer (some ⟨g1, 0, none⟩), .int .i64 ((binding t : Int) + 1)] w' (Wrt B g (lw ++ opdB (binding t) (stren l[0]) (prE l[0]) ++ (([32] : List UInt8) ++ t.data.toList ++ ([32] : List UInt8))) (opdB (binding t + 1) (stren l[1]) (prE l[1])) w')) := fun w' h => hbc ▸ opd_w e1 (binding t + 1) h.1 (k1 w' h.2.1).2 (hpf.below h.2.1) (show Sz (lw ++ opdB (binding t) (stren l[0]) (prE l[0]) ++ (([32] : List UInt8) ++ t.data.toList ++ ([32] : List UInt8))) (opdB (binding t + 1) (stren l[1]) (prE l[1])) from (by
      have := hz
      unfold Sz at this ⊢
      (try simp only [List.length_append] at this ⊢)
      omega))
  have H0 : Hid (Wo B g lw w w) := Wo.refl hb
  clear hnd hce hch hpf hz hb ET k0 k1
  go_enter Tryz.func149, Tryz.ntmps149
  obtain ⟨-, d0, d1, d2, d3⟩ := CE.out w H0.out.2.1
  have x0 := K0.out w H0.out.2.1
  have x1 := K1.out w H0.out.2.1
  have J := hide (J0.out w H0.out)
  clear J0
  have JB := hide (binding_any t w)
  go_wp2_with fail
  refine JB.out.mono ?_
  rintro e wq ⟨rfl, eq⟩
  subst eq
  clear JB
  go_wp2_with fail
  refine J.out.mono ?_
  rintro e w1 ⟨rfl, h⟩
  have H1 := hide (H0.out.trans h)
  clear h J H0 d0 d1 d2 d3 x0 x1
  obtain ⟨-, d0, d1, d2, d3⟩ := CE.out w1 H1.out.2.1
  have x0 := K0.out w1 H1.out.2.1
  have x1 := K1.out w1 H1.out.2.1
  have J := hide (J1.out w1 H1.out)
  clear J1
  go_wp2_with fail
  refine J.out.mono ?_
  rintro e w2 ⟨rfl, h⟩
  have H2 := hide (H1.out.trans h)
  clear h J H1 d0 d1 d2 d3 x0 x1
  obtain ⟨-, d0, d1, d2, d3⟩ := CE.out w2 H2.out.2.1
  have x0 := K0.out w2 H2.out.2.1
  have x1 := K1.out w2 H2.out.2.1
  have J := hide (J2.out w2 H2.out)
  clear J2
  go_wp2_with fail
  refine J.out.mono ?_
  rintro e w3 ⟨rfl, h⟩
  have H3 := hide (H2.out.trans h)
  clear h J H2 d0 d1 d2 d3 x0 x1
  go_wp2_with fail
  go_end0
  exact ⟨rfl, by have h := H3.out; first | exact h | (simp only [List.append_assoc] at h ⊢; exact h) | (simp only [List.append_assoc, List.cons_append, List.nil_append] at h ⊢; exact h)⟩
set_option maxHeartbeats 4000000 in
theorem ex_none {op : Nat} {t : ByteArray} {n : Int} {l : List Tree} {a : Nat} (h : op < 30 ∨ 38 < op) : EW (.mk op t n l a) := by
  intro B g lw w v hb hnd hpf hz
  obtain ⟨gn, ao, c, gl, gs, rfl, ⟨-, d0, d1, d2, d3⟩, hcap, hch⟩ := nd_open hnd
  have ET : prE (.mk op t n l a) = [] := by
    rw [prE, exB]
    rw [if_neg (by omega), if_neg (by omega), if_neg (by omega), if_neg (by omega), if_neg (by omega), if_neg (by omega), if_neg (by omega), if_neg (by omega)]
  have HF : Hid (Wrt B g lw [] w (.returned (.tuple #[])) w) := ⟨rfl, by rw [List.append_nil]; exact Wo.refl hb⟩
  rw [ET]
  have k1 : ¬ (op : Int) = 30 := by omega
  have k2 : ¬ (op : Int) = 31 := by omega
  have k3 : ¬ (op : Int) = 32 := by omega
  have k4 : ¬ (op : Int) = 33 := by omega
  have k5 : ¬ (op : Int) = 34 := by omega
  have k6 : ¬ (op : Int) = 35 := by omega
  have k7 : ¬ (op : Int) = 36 := by omega
  have k8 : ¬ (op : Int) = 37 := by omega
  have k9 : ¬ (op : Int) = 38 := by omega
  clear hnd hb hpf hz hch hcap ET h
  go_enter Tryz.func149, Tryz.ntmps149
  go_wp2_with fail
  go_end0
  exact HF.out
set_option maxHeartbeats 4000000 in
theorem ex30 {t : ByteArray} {n : Int} {l : List Tree} {a : Nat} (h0 : -9223372036854775808 ≤ n) (h1 : n ≤ 9223372036854775807) : EW (.mk 30 t n l a) := by
  intro B g lw w v hb hnd hpf hz
  obtain ⟨gn, ao, c, gl, gs, rfl, ⟨-, d0, d1, d2, d3⟩, hcap, hch⟩ := nd_open hnd
  have ET : prE (.mk 30 t n l a) = Lib.itoa n := by
    rw [prE, exB]
    simp
  rw [ET] at hz ⊢
  have J0 := hide (hpf w (Below.refl _ _) n h0 h1)
  have J1 : Hid (∀ w', Below w.heap.size w w' → Calls Tryz.prog 57 #[.pointer (some ⟨g, 0, none⟩), .slice (some ⟨w'.heap.size, 0, none⟩) 1 1] (w'.alloc (.cells #[.string ⟨(Lib.itoa n).toArray⟩] 9)) (Wrt B g lw (Lib.itoa n) w)) := fun w' h => by
    refine (put1 ⟨(Lib.itoa n).toArray⟩ (hb.later h) (show Sz lw (Lib.itoa n) from hz)).mono ?_
    rintro e w2 ⟨rfl, h2⟩
    exact ⟨rfl, (wo_later hb h).trans h2⟩
  clear hnd hb hpf hz hch hcap ET
  go_enter Tryz.func149, Tryz.ntmps149
  go_wp2_with fail
  refine J0.out.mono ?_
  rintro e w2 ⟨rfl, h2⟩
  have J := hide (J1.out w2 h2)
  clear h2 J0 J1
  go_wp2_with fail
  refine J.out.mono ?_
  rintro e w3 ⟨rfl, h3⟩
  have H := hide h3
  clear h3 J
  go_wp2_with fail
  go_end0
  exact ⟨rfl, H.out⟩
end Go.Proofs.YtmfoehaeejhlpaaGreatDoor
