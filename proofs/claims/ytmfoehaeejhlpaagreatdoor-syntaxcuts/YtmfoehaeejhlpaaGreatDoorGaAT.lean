import Derived.Test.YtmfoehaeejhlpaaGreatDoorSyJd
import Derived.Test.YtmfoehaeejhlpaaGreatDoorSyWl
/-
  What is well formed: the whole.
-/
namespace Go.Proofs.YtmfoehaeejhlpaaGreatDoor
open Go.RowKit Yn
set_option maxRecDepth 100000
mutual
theorem fits_all : ∀ (T : Tree) (b : Nat), wfT T b → FW T b
  | .mk op t n l a, b, h => by
    rw [wfT] at h
    obtain ⟨h1, h2, h3, h4, h5, h6, h7⟩ := h
    have hv := fits_alls l _ h7
    by_cases e5 : op = 5
    · subst e5
      exact fits5 h1 h2 h4 h5 h6 hv
    · by_cases e30 : op = 30
      · subst e30
        exact fits30 (h3 rfl) h1 h2 h4 h5 h6 hv
      · exact fits_ e5 e30 h1 h2 h4 h5 h6 hv
theorem fits_alls : ∀ (l : List Tree) (b : Nat), wfTs l b → ∀ i (h : i < l.length), FW l[i] b
  | [], _, _, i, h => absurd h (by simp)
  | t :: ts, b, h, i, hi => by
    rw [wfTs] at h
    cases i with
    | zero => exact fits_all t b h.1
    | succ i => exact fits_alls ts b h.2 i (by simpa using hi)
end
set_option maxHeartbeats 4000000 in
theorem wf_w {t : ByteArray} {n : Int} {l : List Tree} {a : Nat} {W : World} {v : Value} (hnd : Nd (fun q => q < W.heap.size) W (.mk 1 t n l a) v) (hK : Kd W) (hwf : wfT (.mk 1 t n l a) 0) (hsz : szT (.mk 1 t n l a) ≤ 100000) : Calls Tryz.prog 32 #[v] W fun e w' => e = .returned (.bool true) ∧ Below W.heap.size W w' := by
  obtain ⟨gn, ao, c, gl, gs, rfl, hce, -, -⟩ := nd_open hnd
  have J0 := hide (Le.words_any W hK.2)
  obtain ⟨w2, hw2⟩ : ∃ X, X = (W.alloc (.cells Le.wsL.toArray 9)).alloc (.cells #[.slice (some ⟨W.heap.size, 0, none⟩) 26 26, .int .i64 0] 117) := ⟨_, rfl⟩
  obtain ⟨n1, n2, n3⟩ := two_new W (.cells Le.wsL.toArray 9) (.cells #[.slice (some ⟨W.heap.size, 0, none⟩) 26 26, .int .i64 0] 117)
  rw [← hw2] at n1 n2 n3
  have JJ : Hid (Jd W.heap.size w2 (W.heap.size + 1) W.heap.size 0) := ⟨by omega, by omega, n2, n1⟩
  have B2 := hide n3
  have JF := hide (fits_all _ 0 hwf W.heap.size (W.heap.size + 1) W.heap.size 0 w2 _ JJ.out (hnd.below n3) (fun w' h => hK.below (n3.trans h)) (by omega))
  have C2 := hide (hce.below n3)
  obtain ⟨-, d0, d1, d2, d3⟩ := C2.out
  clear hnd hK hwf hsz hce n1 n2 n3
  go_enter Tryz.func32, Tryz.ntmps32
  go_wp2_with fail
  refine J0.out.mono ?_
  rintro e w1 ⟨rfl, rfl⟩
  clear J0
  go_upto_region 2 with fail
  rw [← hw2]
  clear hw2
  go_wp2_with fail
  refine JF.out.mono ?_
  rintro e w3 ⟨rfl, -, hm⟩
  have BF : Hid (Below W.heap.size W w3) := B2.out.trans (hm.below (by have := B2.out.size; omega) (fun q e => by omega))
  clear hm JF
  go_wp2_with fail
  go_ret
  exact ⟨rfl, BF.out⟩
end Go.Proofs.YtmfoehaeejhlpaaGreatDoor

/-
  What writes: expressions.
-/
namespace Go.Proofs.YtmfoehaeejhlpaaGreatDoor
open Go.RowKit Yn
set_option maxRecDepth 100000
def nilT : Tree := .mk 0 (bs []) 0 [] 0
/-- How much an expression binds. -/
def stren : Tree → Nat | .mk op t _ _ _ => if op = 35 then 0 else if op = 33 then binding t else 7
def opdB (least s : Nat) (x : List UInt8) : List UInt8 := if least ≤ s then x else [40] ++ x ++ [41]
def exB (op : Nat) (t : ByteArray) (n : Int) (l : List Tree) (c : List (List UInt8)) : List UInt8 :=
  if op = 30 then Lib.itoa n
  else if op = 31 ∨ op = 38 then t.data.toList
  else if op = 32 then t.data.toList ++ [46] ++ (txT (l.getD 0 nilT)).data.toList
  else if op = 33 then opdB (binding t) (stren (l.getD 0 nilT)) (c.getD 0 []) ++ ([32] ++ t.data.toList ++ [32]) ++ opdB (binding t + 1) (stren (l.getD 1 nilT)) (c.getD 1 [])
  else if op = 34 then t.data.toList ++ opdB 7 (stren (l.getD 0 nilT)) (c.getD 0 [])
  else if op = 35 then opdB 1 (stren (l.getD 0 nilT)) (c.getD 0 []) ++ [32, 63, 32] ++ c.getD 1 [] ++ [32, 58, 32] ++ c.getD 2 []
  else if op = 36 then (t.data.toList ++ [40]) ++ comJ c ++ [41]
  else if op = 37 then [104, 97, 115, 40] ++ t.data.toList ++ [41]
  else []
mutual
/-- An expression, written. -/
def prE : Tree → List UInt8 | .mk op t n l _ => exB op t n l (prEs l)
def prEs : List Tree → List (List UInt8) | [] => [] | t :: ts => prE t :: prEs ts
end
theorem prEs_eq : ∀ l : List Tree, prEs l = l.map prE
  | [] => by rw [prEs]; rfl
  | t :: ts => by rw [prEs, prEs_eq ts]; rfl
theorem prEs_at {l : List Tree} {i : Nat} (h : i < l.length) : (prEs l).getD i [] = prE l[i] := by
  rw [prEs_eq, List.getD_eq_getElem?_getD, List.getElem?_map, List.getElem?_eq_getElem h]
  rfl
theorem getD_at {l : List Tree} {i : Nat} (h : i < l.length) : l.getD i nilT = l[i] := by
  rw [List.getD_eq_getElem?_getD, List.getElem?_eq_getElem h]
  rfl
/-- Numbers are written as they are. -/
def Pf (B : Nat) (w : World) : Prop := ∀ w', Below B w w' → ∀ n : Int, -9223372036854775808 ≤ n → n ≤ 9223372036854775807 → Calls Tryz.prog 169 #[.int .i64 n, .int .i64 10] w' fun e w'' => e = .returned (.string ⟨(Lib.itoa n).toArray⟩) ∧ Below w'.heap.size w' w''
theorem Pf.below {B : Nat} {w w' : World} (h : Pf B w) (hb : Below B w w') : Pf B w' := fun w2 h2 => h w2 (hb.trans h2)
/-- An expression is written so. -/
def EW (T : Tree) : Prop := ∀ (B g : Nat) (l : List UInt8) (w : World) (v : Value), Bt B g l w → Nd (fun q => q < B) w T v → Pf B w → Sz l (prE T) → Calls Tryz.prog 149 #[.pointer (some ⟨g, 0, none⟩), v] w (Wrt B g l (prE T) w)
theorem ch_at {B : Nat} {w : World} {ao : Option Addr} {l : List Tree} {gl : Nat} {gs : List Nat} (h : Ch B w ao l gl gs) (i : Nat) (hi : i < l.length) : ∃ gi, ∀ w', Below B w w' → w'.cell? ⟨gl, i, none⟩ = some (.pointer (some ⟨gi, 0, none⟩)) ∧ Nd (fun q => q < B) w' l[i] (.pointer (some ⟨gi, 0, none⟩)) :=
  ⟨gs[i]'(by rw [h.1]; exact hi), fun _ hb => (h.below hb).2.2 i hi (by rw [h.1]; exact hi)⟩
theorem bind_le (t : ByteArray) : binding t ≤ 6 := by
  unfold binding
  repeat' split
  all_goals omega
set_option maxHeartbeats 2000000 in
theorem stren_any {B : Nat} {T : Tree} {w : World} {v : Value} (hnd : Nd (fun q => q < B) w T v) : Calls Tryz.prog 182 #[v] w fun e w' => e = .returned (.int .i64 (stren T : Int)) ∧ w' = w := by
  obtain ⟨op, t, n, l, a⟩ := T
  obtain ⟨gn, ao, c, gl, gs, rfl, ⟨-, d0, d1, -, -⟩, -, -⟩ := nd_open hnd
  clear hnd
  by_cases h1 : op = 35
  · subst h1
    go_enter Tryz.func182, Tryz.ntmps182
    go_wp2_with fail
    go_ret
    exact ⟨rfl, rfl⟩
  · have k1 : ¬ (op : Int) = 35 := by omega
    by_cases h2 : op = 33
    · subst h2
      have J := hide (binding_any t w)
      go_enter Tryz.func182, Tryz.ntmps182
      go_wp2_with fail
      refine J.out.mono ?_
      rintro e w2 ⟨rfl, rfl⟩
      go_wp2_with fail
      go_ret
      exact ⟨rfl, rfl⟩
    · have k2 : ¬ (op : Int) = 33 := by omega
      have E : Hid (stren (.mk op t n l a) = 7) := by simp [Hid, stren, h1, h2]
      rw [E.out]
      go_enter Tryz.func182, Tryz.ntmps182
      go_wp2_with fail
      go_ret
      exact ⟨rfl, rfl⟩
set_option maxHeartbeats 2000000 in
theorem opd_w {T : Tree} (h : EW T) (least : Nat) {B g : Nat} {l : List UInt8} {w : World} {v : Value} (hb : Bt B g l w) (hnd : Nd (fun q => q < B) w T v) (hpf : Pf B w) (hz : Sz l (opdB least (stren T) (prE T))) : Calls Tryz.prog 170 #[.pointer (some ⟨g, 0, none⟩), v, .int .i64 (least : Int)] w (Wrt B g l (opdB least (stren T) (prE T)) w) := by
  obtain ⟨gv, rfl⟩ := hnd.ptr
  have J0 := hide (stren_any hnd)
  by_cases hs : least ≤ stren T
  · have e0 : opdB least (stren T) (prE T) = prE T := if_pos hs
    rw [e0] at hz ⊢
    have J1 := hide (h B g l w _ hb hnd hpf hz)
    have k1 : (least : Int) ≤ (stren T : Int) := by omega
    clear e0 hz hb hpf hnd h
    go_enter Tryz.func170, Tryz.ntmps170
    go_wp2_with fail
    refine J0.out.mono ?_
    rintro e w2 ⟨rfl, rfl⟩
    clear J0
    go_wp2_with fail
    refine J1.out.mono ?_
    rintro e w2 ⟨rfl, h2⟩
    have H2 := hide h2
    clear h2 J1
    go_wp2_with fail
    go_end0
    exact ⟨rfl, H2.out⟩
  · have e0 : opdB least (stren T) (prE T) = [40] ++ prE T ++ [41] := if_neg hs
    rw [e0] at hz ⊢
    have k1 : ¬ (least : Int) ≤ (stren T : Int) := by omega
    have J1 := hide (put1 ⟨#[40]⟩ hb hz.left.left)
    have J2 : Hid (∀ w1, Wo B g (l ++ [40]) w w1 → Calls Tryz.prog 149 #[.pointer (some ⟨g, 0, none⟩), .pointer (some ⟨gv, 0, none⟩)] w1 (Wrt B g (l ++ [40]) (prE T) w1)) := fun w1 h1 => h B g _ w1 _ h1.1 (hnd.below h1.2.1) (hpf.below h1.2.1) hz.left.right
    have J3 : Hid (∀ w2, Wo B g (l ++ [40] ++ prE T) w w2 → Calls Tryz.prog 57 #[.pointer (some ⟨g, 0, none⟩), .slice (some ⟨w2.heap.size, 0, none⟩) 1 1] (w2.alloc (.cells #[.string ⟨#[41]⟩] 9)) (Wrt B g (l ++ [40] ++ prE T) [41] w2)) := fun w2 h2 => put1 ⟨#[41]⟩ h2.1 (by
      have := hz
      unfold Sz at this ⊢
      simp only [List.length_append] at this ⊢
      exact (by show _ + [41].length ≤ _; omega))
    clear e0 hz hb hpf hnd h
    go_enter Tryz.func170, Tryz.ntmps170
    go_wp2_with fail
    refine J0.out.mono ?_
    rintro e w2 ⟨rfl, rfl⟩
    clear J0
    go_wp2_with fail
    refine J1.out.mono ?_
    rintro e w1 ⟨rfl, h1⟩
    have H1 : Hid (Wo B g (l ++ [40]) w2 w1) := h1
    have J := hide (J2.out w1 h1)
    clear h1 J1 J2
    go_wp2_with fail
    refine J.out.mono ?_
    rintro e w3 ⟨rfl, h3⟩
    have H3 := hide (H1.out.trans h3)
    have J := hide (J3.out w3 H3.out)
    clear h3 J3 H1
    go_wp2_with fail
    refine J.out.mono ?_
    rintro e w4 ⟨rfl, h4⟩
    have H4 : Hid (Wo B g (l ++ ([40] ++ prE T ++ [41])) w2 w4) := by
      have := H3.out.trans h4
      simpa only [List.append_assoc, Hid] using this
    clear h4 J H3
    go_wp2_with fail
    go_end0
    exact ⟨rfl, H4.out⟩
end Go.Proofs.YtmfoehaeejhlpaaGreatDoor
