import Derived.Test.YtmfoehaeejhlpaaGreatDoorGaAV
import Derived.Lib.UnsafeStr
import Derived.Test.YtmfoehaeejhlpaaGreatDoorGaAS
/-
  What writes: clauses, members.
-/
namespace Go.Proofs.YtmfoehaeejhlpaaGreatDoor
open Go.RowKit Yn
set_option maxRecDepth 100000
/-- What a loop or a branch has at its head may be written. -/
def okLp (okb : Tree → Prop) (T : Tree) : Prop := 2 ≤ (lsT T).length ∧ EW ((lsT T).getD 0 nilT) ∧ okb ((lsT T).getD 1 nilT)
mutual
def okSt : Nat → Tree → Prop
  | 0, _ => False
  | f + 1, T => if opT T = 13 then okBr f T else if opT T = 14 ∨ opT T = 15 then okLp (okBk f) T else SW T
def okBr : Nat → Tree → Prop
  | 0, _ => False
  | f + 1, T => okLp (okBk f) T ∧ ((lsT T).length = 2 ∨ (3 ≤ (lsT T).length ∧ if opT ((lsT T).getD 2 nilT) = 13 then okBr f ((lsT T).getD 2 nilT) else okBk f ((lsT T).getD 2 nilT)))
def okBk : Nat → Tree → Prop
  | 0, _ => False
  | f + 1, T => (lsT T).length ≤ 1048576 ∧ ∀ i (h : i < (lsT T).length), okSt f (lsT T)[i]
end
theorem all_w : ∀ f : Nat, (∀ T k, k + f ≤ 1000000 → okSt f T → StW f T k) ∧ (∀ T k, k + f ≤ 1000000 → okBr f T → BrW f T k) ∧ (∀ T k, k + f ≤ 1000000 → okBk f T → BlkW f T k)
  | 0 => ⟨fun T k _ h => by rw [okSt] at h; exact h.elim, fun T k _ h => by rw [okBr] at h; exact h.elim, fun T k _ h => by rw [okBk] at h; exact h.elim⟩
  | f + 1 => by
    obtain ⟨i1, i2, i3⟩ := all_w f
    refine ⟨fun T k hk h => ?_, fun T k hk h => ?_, fun T k hk h => ?_⟩
    · obtain ⟨op, t, n, l, a⟩ := T
      rw [okSt] at h
      have h : if op = 13 then okBr f (.mk op t n l a) else if op = 14 ∨ op = 15 then okLp (okBk f) (.mk op t n l a) else SW (.mk op t n l a) := h
      by_cases h1 : op = 13
      · subst h1
        rw [if_pos rfl] at h
        exact st13 (i2 _ k (by omega) h)
      · rw [if_neg h1] at h
        by_cases h2 : op = 14 ∨ op = 15
        · rw [if_pos h2] at h
          obtain ⟨q1, q2, q3⟩ := h
          have q1 : 2 ≤ l.length := q1
          have q2 : EW (l.getD 0 nilT) := q2
          have q3 : okBk f (l.getD 1 nilT) := q3
          rw [getD_at (show 0 < l.length by omega)] at q2
          rw [getD_at (show 1 < l.length by omega)] at q3
          rcases h2 with rfl | rfl
          · exact st14 q1 q2 (i3 _ k (by omega) q3)
          · exact st15 q1 q2 (i3 _ k (by omega) q3)
        · rw [if_neg h2] at h
          exact st_sm ⟨h1, fun e => h2 (.inl e), fun e => h2 (.inr e)⟩ h
    · obtain ⟨op, t, n, l, a⟩ := T
      rw [okBr] at h
      obtain ⟨⟨q1, q2, q3⟩, q4⟩ := h
      have q1 : 2 ≤ l.length := q1
      have q2 : EW (l.getD 0 nilT) := q2
      have q3 : okBk f (l.getD 1 nilT) := q3
      rw [getD_at (show 0 < l.length by omega)] at q2
      rw [getD_at (show 1 < l.length by omega)] at q3
      have q5 := i3 _ k (by omega) q3
      have q4 : l.length = 2 ∨ (3 ≤ l.length ∧ if opT (l.getD 2 nilT) = 13 then okBr f (l.getD 2 nilT) else okBk f (l.getD 2 nilT)) := q4
      rcases q4 with q4 | ⟨q4, q6⟩
      · exact br2 q4 q2 q5
      · rw [getD_at (show 2 < l.length by omega)] at q6
        by_cases h3 : opT l[2] = 13
        · rw [if_pos h3] at q6
          exact br3 q4 q2 q5 h3 (i2 _ k (by omega) q6)
        · rw [if_neg h3] at q6
          exact br4 q4 q2 q5 h3 (i3 _ k (by omega) q6)
    · obtain ⟨op, t, n, l, a⟩ := T
      rw [okBk] at h
      exact block_w (fun i hi => i1 _ (k + 1) (by omega) (h.2 i hi)) h.1 (by omega)
def namB (l : List Tree) : List UInt8 := comJ (l.map txT |>.map fun x => x.data.toList)
def clB : Tree → List UInt8 | .mk _ t _ l _ => if l.length = 0 then [] else ([32] ++ t.data.toList ++ [32]) ++ namB l
def CW (T : Tree) : Prop := ∀ (B g : Nat) (l : List UInt8) (w : World) (v : Value), Bt B g l w → Nd (fun q => q < B) w T v → Sz l (clB T) → Calls Tryz.prog 58 #[.pointer (some ⟨g, 0, none⟩), v] w (Wrt B g l (clB T) w)
set_option maxHeartbeats 4000000 in
theorem clause_w {op : Nat} {t : ByteArray} {n : Int} {l : List Tree} {a : Nat} (hn : l.length ≤ 1048576) : CW (.mk op t n l a) := by
  intro B g lw w v hb hnd hz
  obtain ⟨gn, ao, c, gl, gs, rfl, hce, hcap, hch⟩ := nd_open hnd
  by_cases h0 : l.length = 0
  · have ET : clB (.mk op t n l a) = [] := if_pos h0
    have HF : Hid (Wrt B g lw [] w (.returned (.tuple #[])) w) := ⟨rfl, by rw [List.append_nil]; exact Wo.refl hb⟩
    rw [ET]
    obtain ⟨-, d0, d1, d2, d3⟩ := hce
    have k1 : ¬ (0 : Int) < (l.length : Int) := by omega
    clear hb hnd hz hcap hch ET h0
    go_enter Tryz.func58, Tryz.ntmps58
    go_wp2_with fail
    go_end0
    exact HF.out
  · have ET : clB (.mk op t n l a) = (([32] : List UInt8) ++ t.data.toList ++ ([32] : List UInt8)) ++ namB l := if_neg h0
    rw [ET] at hz ⊢
    have CE : Hid (∀ w', Below B w w' → Ce B w' gn op t n ao l.length c) := fun w' h => hce.below h
    have k1 : (0 : Int) < (l.length : Int) := by omega
    have J0 : Hid (∀ w', Wo B g (lw) w w' → Calls Tryz.prog 57 #[.pointer (some ⟨g, 0, none⟩), .slice (some ⟨w'.heap.size, 0, none⟩) 3 3] (w'.alloc (.cells #[.string ⟨#[32]⟩, .string t, .string ⟨#[32]⟩] 9)) (Wrt B g (lw) (([32] : List UInt8) ++ t.data.toList ++ ([32] : List UInt8)) w')) := fun w' h => put3 ⟨#[32]⟩ t ⟨#[32]⟩ h.1 (show Sz (lw) (([32] : List UInt8) ++ t.data.toList ++ ([32] : List UInt8)) from (by
        have := hz
        unfold Sz at this ⊢
        (try simp only [List.length_append] at this ⊢)
        omega))
    have J1 : Hid (∀ w', Wo B g (lw ++ (([32] : List UInt8) ++ t.data.toList ++ ([32] : List UInt8))) w w' → Calls Tryz.prog 60 #[.pointer (some ⟨g, 0, none⟩), .slice ao l.length c] w' (Wrt B g (lw ++ (([32] : List UInt8) ++ t.data.toList ++ ([32] : List UInt8))) (namB l) w')) := fun w' h => names_w l h.1 (hch.below h.2.1) hn (show Sz (lw ++ (([32] : List UInt8) ++ t.data.toList ++ ([32] : List UInt8))) (namB l) from (by
        have := hz
        unfold Sz at this ⊢
        (try simp only [List.length_append] at this ⊢)
        omega))
    have H0 : Hid (Wo B g lw w w) := Wo.refl hb
    clear hnd hce hch hz hb ET hcap
    go_enter Tryz.func58, Tryz.ntmps58
    obtain ⟨-, d0, d1, d2, d3⟩ := CE.out w H0.out.2.1
    have J := hide (J0.out w H0.out)
    clear J0
    go_wp2_with fail
    refine J.out.mono ?_
    rintro e w1 ⟨rfl, h⟩
    have H1 := hide (H0.out.trans h)
    clear h J H0 d0 d1 d2 d3
    obtain ⟨-, d0, d1, d2, d3⟩ := CE.out w1 H1.out.2.1
    have J := hide (J1.out w1 H1.out)
    clear J1
    go_wp2_with fail
    refine J.out.mono ?_
    rintro e w2 ⟨rfl, h⟩
    have H2 := hide (H1.out.trans h)
    clear h J H1 d0 d1 d2 d3
    go_wp2_with fail
    go_end0
    exact ⟨rfl, by have h := H2.out; first | exact h | (simp only [List.append_assoc] at h ⊢; exact h) | (simp only [List.append_assoc, List.cons_append, List.nil_append] at h ⊢; exact h)⟩
def prMb (f : Nat) : Tree → List UInt8 | .mk op t _ l _ => if op = 2 then ([115, 121, 115, 116, 101, 109, 32] ++ t.data.toList) ++ ((l.take 4).map clB).flatten ++ prBk f (l.getD 4 nilT) 0 ++ [10] else ([102, 117, 110, 99, 32] ++ t.data.toList ++ [40]) ++ namB (lsT (l.getD 0 nilT)) ++ [41] ++ prBk f (l.getD 1 nilT) 0 ++ [10]
def MW (f : Nat) (T : Tree) : Prop := ∀ (B g : Nat) (l : List UInt8) (w : World) (v : Value), Bt B g l w → Nd (fun q => q < B) w T v → Pf B w → Sz l (prMb f T) → Calls Tryz.prog 33 #[.pointer (some ⟨g, 0, none⟩), v] w (Wrt B g l (prMb f T) w)
set_option maxHeartbeats 4000000 in
theorem member_f {f op : Nat} {t : ByteArray} {n : Int} {l : List Tree} {a : Nat} (hop : op ≠ 2) (hl : 2 ≤ l.length) (hn0 : (lsT l[0]).length ≤ 1048576) (q1 : BlkW f l[1] 0) : MW f (.mk op t n l a) := by
  intro B g lw w v hb hnd hpf hz
  obtain ⟨gn, ao, c, gl, gs, rfl, hce, hcap, hch⟩ := nd_open hnd
  obtain ⟨rfl, -⟩ := hch.2.1 (by omega)
  obtain ⟨g0, k0⟩ := ch_at hch 0 (by omega)
  obtain ⟨g1, k1⟩ := ch_at hch 1 (by omega)
  have hnd0 := (k0 w (Below.refl _ _)).2
  have hl0 : (0 : Int) < (l.length : Int) := by omega
  have hl1 : (1 : Int) < (l.length : Int) := by omega
  obtain ⟨T0, hT0⟩ : ∃ T0, T0 = l[0] := ⟨_, rfl⟩
  rw [← hT0] at hnd0 hn0
  obtain ⟨o0, t0, n0, l0, a0⟩ := T0
  have hn0 : l0.length ≤ 1048576 := hn0
  obtain ⟨g', ao', c', gl', gs', e2, hce', hcap', hch'⟩ := nd_open hnd0
  injection e2 with e2
  injection e2 with e2
  injection e2 with e2 _ _
  subst e2
  have ET : prMb f (.mk op t n l a) = (([102, 117, 110, 99, 32] : List UInt8) ++ t.data.toList ++ ([40] : List UInt8)) ++ namB l0 ++ ([41] : List UInt8) ++ prBk f l[1] 0 ++ ([10] : List UInt8) := by
    show (if op = 2 then _ else _) = _
    rw [if_neg hop, getD_at (show 0 < l.length by omega), getD_at (show 1 < l.length by omega), ← hT0]
    rfl
  rw [ET] at hz ⊢
  have CE : Hid (∀ w', Below B w w' → Ce B w' gn op t n (some ⟨gl, 0, none⟩) l.length c) := fun w' h => hce.below h
  have C0 : Hid (∀ w', Below B w w' → Ce B w' g0 o0 t0 n0 ao' l0.length c') := fun w' h => hce'.below h
  have K0 : Hid (∀ w', Below B w w' → w'.cell? ⟨gl, 0, none⟩ = some (.pointer (some ⟨g0, 0, none⟩))) := fun w' h => (k0 w' h).1
  have K1 : Hid (∀ w', Below B w w' → w'.cell? ⟨gl, 1, none⟩ = some (.pointer (some ⟨g1, 0, none⟩))) := fun w' h => (k1 w' h).1
  have ko : ¬ (op : Int) = 2 := by omega
  have J0 : Hid (∀ w', Wo B g (lw) w w' → Calls Tryz.prog 57 #[.pointer (some ⟨g, 0, none⟩), .slice (some ⟨w'.heap.size, 0, none⟩) 3 3] (w'.alloc (.cells #[.string ⟨#[102, 117, 110, 99, 32]⟩, .string t, .string ⟨#[40]⟩] 9)) (Wrt B g (lw) (([102, 117, 110, 99, 32] : List UInt8) ++ t.data.toList ++ ([40] : List UInt8)) w')) := fun w' h => put3 ⟨#[102, 117, 110, 99, 32]⟩ t ⟨#[40]⟩ h.1 (show Sz (lw) (([102, 117, 110, 99, 32] : List UInt8) ++ t.data.toList ++ ([40] : List UInt8)) from (by
      have := hz
      unfold Sz at this ⊢
      (try simp only [List.length_append] at this ⊢)
      omega))
  have J1 : Hid (∀ w', Wo B g (lw ++ (([102, 117, 110, 99, 32] : List UInt8) ++ t.data.toList ++ ([40] : List UInt8))) w w' → Calls Tryz.prog 60 #[.pointer (some ⟨g, 0, none⟩), .slice ao' l0.length c'] w' (Wrt B g (lw ++ (([102, 117, 110, 99, 32] : List UInt8) ++ t.data.toList ++ ([40] : List UInt8))) (namB l0) w')) := fun w' h => names_w l0 h.1 (hch'.below h.2.1) hn0 (show Sz (lw ++ (([102, 117, 110, 99, 32] : List UInt8) ++ t.data.toList ++ ([40] : List UInt8))) (namB l0) from (by
      have := hz
      unfold Sz at this ⊢
      (try simp only [List.length_append] at this ⊢)
      omega))
  have J2 : Hid (∀ w', Wo B g (lw ++ (([102, 117, 110, 99, 32] : List UInt8) ++ t.data.toList ++ ([40] : List UInt8)) ++ (namB l0)) w w' → Calls Tryz.prog 57 #[.pointer (some ⟨g, 0, none⟩), .slice (some ⟨w'.heap.size, 0, none⟩) 1 1] (w'.alloc (.cells #[.string ⟨#[41]⟩] 9)) (Wrt B g (lw ++ (([102, 117, 110, 99, 32] : List UInt8) ++ t.data.toList ++ ([40] : List UInt8)) ++ (namB l0)) ([41] : List UInt8) w')) := fun w' h => put1 ⟨#[41]⟩ h.1 (show Sz (lw ++ (([102, 117, 110, 99, 32] : List UInt8) ++ t.data.toList ++ ([40] : List UInt8)) ++ (namB l0)) ([41] : List UInt8) from (by
      have := hz
      unfold Sz at this ⊢
      (try simp only [List.length_append] at this ⊢)
      omega))
  have J3 : Hid (∀ w', Wo B g (lw ++ (([102, 117, 110, 99, 32] : List UInt8) ++ t.data.toList ++ ([40] : List UInt8)) ++ (namB l0) ++ ([41] : List UInt8)) w w' → Calls Tryz.prog 59 #[.pointer (some ⟨g, 0, none⟩), .pointer (some ⟨g1, 0, none⟩), .int .i64 0] w' (Wrt B g (lw ++ (([102, 117, 110, 99, 32] : List UInt8) ++ t.data.toList ++ ([40] : List UInt8)) ++ (namB l0) ++ ([41] : List UInt8)) (prBk f l[1] 0) w')) := fun w' h => q1 B g _ w' _ h.1 (k1 w' h.2.1).2 (hpf.below h.2.1) (show Sz (lw ++ (([102, 117, 110, 99, 32] : List UInt8) ++ t.data.toList ++ ([40] : List UInt8)) ++ (namB l0) ++ ([41] : List UInt8)) (prBk f l[1] 0) from (by
      have := hz
      unfold Sz at this ⊢
      (try simp only [List.length_append] at this ⊢)
      omega))
  have J4 : Hid (∀ w', Wo B g (lw ++ (([102, 117, 110, 99, 32] : List UInt8) ++ t.data.toList ++ ([40] : List UInt8)) ++ (namB l0) ++ ([41] : List UInt8) ++ (prBk f l[1] 0)) w w' → Calls Tryz.prog 57 #[.pointer (some ⟨g, 0, none⟩), .slice (some ⟨w'.heap.size, 0, none⟩) 1 1] (w'.alloc (.cells #[.string ⟨#[10]⟩] 9)) (Wrt B g (lw ++ (([102, 117, 110, 99, 32] : List UInt8) ++ t.data.toList ++ ([40] : List UInt8)) ++ (namB l0) ++ ([41] : List UInt8) ++ (prBk f l[1] 0)) ([10] : List UInt8) w')) := fun w' h => put1 ⟨#[10]⟩ h.1 (show Sz (lw ++ (([102, 117, 110, 99, 32] : List UInt8) ++ t.data.toList ++ ([40] : List UInt8)) ++ (namB l0) ++ ([41] : List UInt8) ++ (prBk f l[1] 0)) ([10] : List UInt8) from (by
      have := hz
      unfold Sz at this ⊢
      (try simp only [List.length_append] at this ⊢)
      omega))
  have H0 : Hid (Wo B g lw w w) := Wo.refl hb
  clear hnd hce hch hpf hz hb ET hcap k0 k1 hnd0 hT0 hce' hcap' hch'
  go_enter Tryz.func33, Tryz.ntmps33
  obtain ⟨-, d0, d1, d2, d3⟩ := CE.out w H0.out.2.1
  have x0 := K0.out w H0.out.2.1
  have x1 := K1.out w H0.out.2.1
  have J := hide (J0.out w H0.out)
  clear J0
  go_wp2_with fail
  refine J.out.mono ?_
  rintro e w1 ⟨rfl, h⟩
  have H1 := hide (H0.out.trans h)
  clear h J H0 d0 d1 d2 d3 x0 x1
  obtain ⟨-, d0, d1, d2, d3⟩ := CE.out w1 H1.out.2.1
  have x0 := K0.out w1 H1.out.2.1
  have x1 := K1.out w1 H1.out.2.1
  have J := hide (J1.out w1 H1.out)
  clear J1
  obtain ⟨-, b0, b1, b2, b3⟩ := C0.out w1 H1.out.2.1
  go_wp2_with fail
  refine J.out.mono ?_
  rintro e w2 ⟨rfl, h⟩
  have H2 := hide (H1.out.trans h)
  clear h J H1 d0 d1 d2 d3 x0 x1
  obtain ⟨-, d0, d1, d2, d3⟩ := CE.out w2 H2.out.2.1
  have x0 := K0.out w2 H2.out.2.1
  have x1 := K1.out w2 H2.out.2.1
  have J := hide (J2.out w2 H2.out)
  clear J2
  go_wp2_with fail
  refine J.out.mono ?_
  rintro e w3 ⟨rfl, h⟩
  have H3 := hide (H2.out.trans h)
  clear h J H2 d0 d1 d2 d3 x0 x1
  obtain ⟨-, d0, d1, d2, d3⟩ := CE.out w3 H3.out.2.1
  have x0 := K0.out w3 H3.out.2.1
  have x1 := K1.out w3 H3.out.2.1
  have J := hide (J3.out w3 H3.out)
  clear J3
  go_wp2_with fail
  refine J.out.mono ?_
  rintro e w4 ⟨rfl, h⟩
  have H4 := hide (H3.out.trans h)
  clear h J H3 d0 d1 d2 d3 x0 x1
  obtain ⟨-, d0, d1, d2, d3⟩ := CE.out w4 H4.out.2.1
  have x0 := K0.out w4 H4.out.2.1
  have x1 := K1.out w4 H4.out.2.1
  have J := hide (J4.out w4 H4.out)
  clear J4
  go_wp2_with fail
  refine J.out.mono ?_
  rintro e w5 ⟨rfl, h⟩
  have H5 := hide (H4.out.trans h)
  clear h J H4 d0 d1 d2 d3 x0 x1
  go_wp2_with fail
  go_end0
  exact ⟨rfl, by have h := H5.out; first | exact h | (simp only [List.append_assoc] at h ⊢; exact h) | (simp only [List.append_assoc, List.cons_append, List.nil_append] at h ⊢; exact h)⟩
end Go.Proofs.YtmfoehaeejhlpaaGreatDoor

/-
  What writes: systems, programs: Print of what is well formed.
-/
namespace Go.Proofs.YtmfoehaeejhlpaaGreatDoor
open Go.RowKit Yn
set_option maxRecDepth 100000
set_option maxHeartbeats 4000000 in
theorem member_s {f : Nat} {t : ByteArray} {n : Int} {ts : List Tree} {a : Nat} (hl : 5 ≤ ts.length) (hv : ∀ i (h : i < ts.length), i < 4 → CW ts[i]) (q4 : BlkW f ts[4] 0) : MW f (.mk 2 t n ts a) := by
  intro B g lw w v hb hnd hpf hz
  obtain ⟨gn, ao, c, gl, gs, rfl, hce, hcap, hc⟩ := nd_open hnd
  obtain ⟨rfl, -⟩ := hc.2.1 (by omega)
  obtain ⟨xs, hxs⟩ : ∃ xs : List (List UInt8), xs = (ts.take 4).map clB := ⟨_, rfl⟩
  have ET : prMb f (.mk 2 t n ts a) = (([115, 121, 115, 116, 101, 109, 32] : List UInt8) ++ t.data.toList) ++ xs.flatten ++ prBk f ts[4] 0 ++ ([10] : List UInt8) := by
    rw [hxs, ← getD_at (show 4 < ts.length by omega)]
    rfl
  rw [ET] at hz ⊢
  obtain ⟨l, hlw⟩ : ∃ l : List UInt8, l = lw ++ (([115, 121, 115, 116, 101, 109, 32] : List UInt8) ++ t.data.toList) := ⟨_, rfl⟩
  have HXN : Hid (xs.length = 4) := by unfold Hid; rw [hxs, List.length_map, List.length_take]; omega
  have HX : Hid (∀ i (h : i < ts.length) (h' : i < xs.length), xs[i] = clB ts[i]) := fun i h h' => by simp [hxs]
  obtain ⟨g4, k4⟩ := ch_at hc 4 (by omega)
  have K4 : Hid (∀ w', Below B w w' → w'.cell? ⟨gl, 4, none⟩ = some (.pointer (some ⟨g4, 0, none⟩))) := fun w' h => (k4 w' h).1
  have J0 := hide (put2 ⟨#[115, 121, 115, 116, 101, 109, 32]⟩ t hb (show Sz lw (([115, 121, 115, 116, 101, 109, 32] : List UInt8) ++ t.data.toList) from hz.left.left.left))
  have HZ : Hid (Sz l xs.flatten) := by
    unfold Hid
    rw [hlw]
    exact hz.left.left.right
  have J8 : Hid (∀ w', Wo B g (l ++ xs.flatten) w w' → Calls Tryz.prog 59 #[.pointer (some ⟨g, 0, none⟩), .pointer (some ⟨g4, 0, none⟩), .int .i64 0] w' (Wrt B g (l ++ xs.flatten) (prBk f ts[4] 0) w')) := fun w' h => q4 B g _ w' _ h.1 (k4 w' h.2.1).2 (hpf.below h.2.1) (by
    rw [hlw]
    have := hz
    unfold Sz at this ⊢
    simp only [List.length_append] at this ⊢
    omega)
  have J9 : Hid (∀ w', Wo B g (l ++ xs.flatten ++ prBk f ts[4] 0) w w' → Calls Tryz.prog 57 #[.pointer (some ⟨g, 0, none⟩), .slice (some ⟨w'.heap.size, 0, none⟩) 1 1] (w'.alloc (.cells #[.string ⟨#[10]⟩] 9)) (Wrt B g (l ++ xs.flatten ++ prBk f ts[4] 0) [10] w')) := fun w' h => put1 ⟨#[10]⟩ h.1 (show Sz _ ([10] : List UInt8) from by
    rw [hlw]
    have := hz
    unfold Sz at this ⊢
    simp only [List.length_append] at this ⊢
    omega)
  have CE : Hid (∀ w', Below B w w' → Ce B w' gn 2 t n (some ⟨gl, 0, none⟩) ts.length c) := fun w' h => hce.below h
  have HC := hide hc
  have HV := hide hv
  have HLW : Hid (l ++ xs.flatten ++ prBk f ts[4] 0 ++ ([10] : List UInt8) = lw ++ ((([115, 121, 115, 116, 101, 109, 32] : List UInt8) ++ t.data.toList) ++ xs.flatten ++ prBk f ts[4] 0 ++ ([10] : List UInt8))) := by
    unfold Hid
    rw [hlw]
    simp only [List.append_assoc]
  have HTL := hide hl
  have hl5 : (4 : Int) < (ts.length : Int) := by omega
  have hl4 : (4 : Int) ≤ (c : Int) := by omega
  have hl6 : 4 ≤ c := by omega
  have hc9 : c ≤ 9223372036854775807 := hcap.2
  obtain ⟨-, d0, d1, d2, d3⟩ := hce
  clear hb hnd hpf hz hc hcap hv hxs ET k4 q4
  generalize prBk f ts[4] 0 = pb at *
  go_enter Tryz.func33, Tryz.ntmps33
  go_wp2_with fail
  refine J0.out.mono ?_
  rintro e w1 ⟨rfl, h1⟩
  have h1 : Wo B g (lw ++ (([115, 121, 115, 116, 101, 109, 32] : List UInt8) ++ t.data.toList)) w w1 := h1
  rw [← hlw] at h1
  have H1 : Hid (Wo B g (l ++ (xs.take 0).flatten) w w1) := by
    have e : l ++ (xs.take 0).flatten = l := by simp
    unfold Hid
    rw [e]
    exact h1
  clear h1 J0 d0 d1 d2 d3 hlw
  obtain ⟨-, d0, d1, d2, d3⟩ := CE.out w1 H1.out.2.1
  go_wp2_with fail
  go_loopw [24] (fun v8 wr => ∃ i : Nat, v8 = .int .i64 (i : Int) ∧ i ≤ 4 ∧ Hid (Wo B g (l ++ (xs.take i).flatten) w wr)) (fun v8 _ => 4 - (intOf v8).toNat)
  case atStart => exact ⟨0, rfl, by omega, H1.out⟩
  case round =>
    obtain ⟨i, rfl, hi1, hw⟩ := hrel
    by_cases hi2 : i < 4
    · have hit : i < ts.length := by have := HTL.out; omega
      have hix : i < xs.length := by rw [HXN.out]; exact hi2
      have hig : i < gs.length := by rw [HC.out.1]; exact hit
      obtain ⟨c0, hnd⟩ := (HC.out.below hw.out.2.1).2.2 i hit hig
      have zz : Sz (l ++ (xs.take i).flatten) xs[i] := by
        have h1 := flat_le xs (i + 1)
        rw [flat_take hix, List.length_append] at h1
        have h2 := HZ.out
        unfold Sz at h2 ⊢
        rw [List.length_append]
        omega
      have ex := HX.out i hit hix
      have CT := flat_take hix
      rw [ex] at zz CT
      have J1 := hide (HV.out i hit hi2 B g _ wr _ hw.out.1 hnd zz)
      have i9 : (i : Int) < 4 := by omega
      have E1 : Hid (l ++ (xs.take i).flatten ++ clB ts[i] = l ++ (xs.take (i + 1)).flatten) := by
        unfold Hid
        rw [CT]
        simp only [List.append_assoc]
      generalize clB ts[i] = cb at *
      generalize gs[i] = gi at *
      clear zz hix hit hig ex CT hnd
      go_wp2_with fail
      refine J1.out.mono ?_
      rintro e w2 ⟨rfl, h2⟩
      have H2 : Hid (Wo B g (l ++ (xs.take (i + 1)).flatten) w w2) := by
        have := hw.out.trans h2
        rw [E1.out] at this
        exact this
      clear h2 J1 c0
      go_wp2_with fail
      exact ⟨⟨i + 1, by go_num, by omega, H2.out⟩, by simp [intOf]; omega⟩
    · obtain rfl : i = 4 := by omega
      have H9 : Hid (Wo B g (l ++ xs.flatten) w wr) := by
        have h := hw.out
        rw [← HXN.out, List.take_length] at h
        exact h
      have J := hide (J8.out wr H9.out)
      obtain ⟨-, b0, b1, b2, b3⟩ := CE.out wr H9.out.2.1
      have x4 := K4.out wr H9.out.2.1
      clear J8 d0 d1 d2 d3
      go_wp2_with fail
      refine J.out.mono ?_
      rintro e w2 ⟨rfl, h2⟩
      have H2 := hide (H9.out.trans h2)
      clear h2 J b0 b1 b2 b3 x4
      have J := hide (J9.out w2 H2.out)
      clear J9
      go_wp2_with fail
      refine J.out.mono ?_
      rintro e w3 ⟨rfl, h3⟩
      have HF : Hid (Wo B g (lw ++ ((([115, 121, 115, 116, 101, 109, 32] : List UInt8) ++ t.data.toList) ++ xs.flatten ++ pb ++ ([10] : List UInt8))) w w3) := by
        have := H2.out.trans h3
        rw [HLW.out] at this
        exact this
      clear h3 J
      go_wp2_with fail
      go_end0
      exact ⟨rfl, by have h := HF.out; first | exact h | (simp only [List.append_assoc] at h ⊢; exact h) | (simp only [List.append_assoc, List.cons_append, List.nil_append] at h ⊢; exact h)⟩
end Go.Proofs.YtmfoehaeejhlpaaGreatDoor

/-
  What writes: the text that was written.
-/
namespace Go.Proofs.YtmfoehaeejhlpaaGreatDoor
open Go.RowKit Yn
set_option maxRecDepth 100000
theorem cells5 : Tryz.prog.cellsOf 5 = 1 := by kernel_rfl
set_option maxHeartbeats 4000000 in
theorem string_w {B g : Nat} {l : List UInt8} {w : World} (h : Bt B g l w) (h0 : l ≠ []) : Calls Tryz.prog 34 #[.pointer (some ⟨g, 0, none⟩)] w fun e w' => e = .returned (.string ⟨l.toArray⟩) ∧ Below B w w' := by
  obtain ⟨p, hB, v, hbk, hown, hne⟩ : ∃ p, Lib.BuilderAt 86 5 B g p (Lib.byteCells l) w := by
    rcases h.2 with h | h
    · exact ⟨_, h⟩
    · exact ⟨_, h⟩
  have hl0 : l.length ≠ 0 := by simpa using h0
  rw [Lib.byteCells_length] at hown
  obtain ⟨q, cap, cur, rfl, hbg, hg, hnc, hcm, hcs, htake⟩ : ∃ q cap cur, v = .slice (some ⟨q, 0, none⟩) l.length cap ∧ B ≤ q ∧ w.heap[q]? = some (.cells cur 5 (0, 0)) ∧ l.length ≤ cap ∧ cap ≤ maxLen ∧ cur.size = cap * 1 ∧ cur.toList.take (l.length * 1) = Lib.byteCells l := by
    rcases hown.2 with ⟨_, hz⟩ | ⟨q, cap, cur, hv, r⟩
    · exact absurd hz hl0
    · exact ⟨q, cap, cur, hv, r⟩
  have c1 : w.drew.cell? ⟨g, 1, none⟩ = some (.slice (some ⟨q, 0, none⟩) l.length cap) := by
    have : w.drew.heap[g]? = some (.cells #[p, .slice (some ⟨q, 0, none⟩) l.length cap] 86 (0, 0)) := hbk
    rw [Lib.cell_of_heap this]; rfl
  have hSD : (Builtin.unsafeSliceData_ #[82] 122 #[.slice (some ⟨q, 0, none⟩) l.length cap]).run Tryz.prog w.drew = .ok (.pointer (some ⟨q, 0, none⟩)) w.drew :=
    Lib.run_unsafeSliceData_row _ _ _ _ _ _ (by omega)
  have hUS : (Builtin.unsafeString_ #[122, 3] 9 #[.pointer (some ⟨q, 0, none⟩), .int .i64 l.length]).run Tryz.prog w.drew = .ok (.string ⟨l.toArray⟩) (w.drew.freeze ⟨q, 0, none⟩ l.length) := by
    refine Lib.run_unsafeString_row w.drew 122 3 9 5 Tryz.underlying122 cells5 q cur.size (by have hg' : w.drew.heap[q]? = some (.cells cur 5 (0, 0)) := hg; simp [World.shape?, hg']) l h0 (by omega) (by unfold maxLen at hcm; omega) ?_
    intro j x hx
    exact hown.cells (g := q) rfl j (.int .u8 x.toNat) (by simp [Lib.byteCells, hx])
  have mixed : Tryz.prog.follows Departure.mixedOrders = true := by kernel_rfl
  clear h hown htake hne
  go_enter Tryz.func34, Tryz.ntmps34
  go_wp2_with fail
  go_region_o
  all_goals (go_wp2_with fail; go_ret; exact ⟨rfl, Lib.below_freeze (Below.drew (Below.refl B w)) (p := ⟨q, 0, none⟩) hbg _⟩)
end Go.Proofs.YtmfoehaeejhlpaaGreatDoor

/-
  Print, of a program that is well formed.
-/
namespace Go.Proofs.YtmfoehaeejhlpaaGreatDoor
open Go.RowKit Yn
set_option maxRecDepth 100000
def prPg (f : Nat) (l : List Tree) : List UInt8 := (l.map (prMb f)).flatten
theorem Bt.new (w : World) : Bt w.heap.size w.heap.size [] (w.alloc (.cells #[.pointer none, .slice none 0 0] 86)) := by
  refine ⟨by simp, .inl ⟨Nat.le_refl _, .slice none 0 0, heap_alloc_new w _, World.ownsRow_nil _ _ _ _, by simp [Value.ownBlock]⟩⟩
set_option maxHeartbeats 4000000 in
theorem print_w {f : Nat} {t : ByteArray} {n : Int} {ts : List Tree} {a : Nat} {W : World} {v : Value} (hj : Calls Tryz.prog 32 #[v] W fun e w' => e = .returned (.bool true) ∧ Below W.heap.size W w') (hnd : Nd (fun q => q < W.heap.size) W (.mk 1 t n ts a) v) (hpf : Pf W.heap.size W) (hv : ∀ i (h : i < ts.length), MW f ts[i]) (hn : ts.length ≤ 1048576) (hne : prPg f ts ≠ []) (hz : Sz [] (prPg f ts)) : Calls Tryz.prog 16 #[v] W fun e w' => e = .returned (.string ⟨(prPg f ts).toArray⟩) ∧ Below W.heap.size W w' := by
  obtain ⟨gn, ao, c, gl, gs, rfl, hce, hcap, hc⟩ := nd_open hnd
  obtain ⟨xs, hxs⟩ : ∃ xs : List (List UInt8), xs = ts.map (prMb f) := ⟨_, rfl⟩
  have ET : prPg f ts = xs.flatten := by rw [hxs]; rfl
  rw [ET] at hz hne ⊢
  obtain ⟨m, hnn⟩ : ∃ m, m = ts.length := ⟨_, rfl⟩
  have HXN : Hid (xs.length = m) := by unfold Hid; rw [hxs, hnn]; simp
  have HX : Hid (∀ i (h : i < ts.length) (h' : i < xs.length), xs[i] = prMb f ts[i]) := fun i h h' => by simp [hxs]
  have HZ := hide hz
  have HNE := hide hne
  have J0 := hide hj
  have CE : Hid (∀ w', Below W.heap.size W w' → Ce W.heap.size w' gn 1 t n ao ts.length c) := fun w' h => hce.below h
  have HC : Hid (∀ w', Below W.heap.size W w' → Ch W.heap.size w' ao ts gl gs) := fun w' h => hc.below h
  have HV := hide hv
  have HP : Hid (∀ w' B, Below W.heap.size W w' → W.heap.size ≤ B → Pf B w') := fun w' B h hB => fun w2 h2 => hpf w2 (h.trans (h2.mono hB))
  have HNN := hide hnn
  have ND : Hid (∀ w' B, Below W.heap.size W w' → W.heap.size ≤ B → ∀ i (h : i < ts.length) (h' : i < gs.length), Nd (fun q => q < B) w' ts[i] (.pointer (some ⟨gs[i], 0, none⟩))) := fun w' B h hB i h1 h2 => Nd.mono (fun q hq => Nat.lt_of_lt_of_le hq hB) _ _ ((hc.below h).2.2 i h1 h2).2
  obtain ⟨-, d0, d1, d2, d3⟩ := hce
  rw [← hnn] at hn d3 CE
  have HGL := hide hc.1
  have HAO := hide hc.2.1
  clear hj hnd hpf hz hc hcap hv hnn hxs ET hne
  go_enter Tryz.func16, Tryz.ntmps16
  go_wp2_with fail
  refine J0.out.mono ?_
  rintro e w1 ⟨rfl, h1⟩
  have H1 := hide h1
  clear h1 J0 d0 d1 d2 d3
  obtain ⟨w2, hw2⟩ : ∃ X, X = w1.alloc (.cells #[.pointer none, .slice none 0 0] 86) := ⟨_, rfl⟩
  obtain ⟨B, hB⟩ : ∃ X, X = w1.heap.size := ⟨_, rfl⟩
  have BT : Hid (Bt B B [] w2) := by rw [hw2, hB]; exact Bt.new w1
  have B2 : Hid (Below W.heap.size W w2) := by rw [hw2]; exact H1.out.trans ((below_alloc w1 _).mono H1.out.size)
  have WB : Hid (W.heap.size ≤ B) := by rw [hB]; exact H1.out.size
  go_upto_region 4 with fail
  rw [← hB, ← hw2]
  clear hw2 hB
  have H0 : Hid (Wo B B ((xs.take 0).flatten) w2 w2) := Wo.refl BT.out
  obtain ⟨-, d0, d1, d2, d3⟩ := CE.out w2 B2.out
  go_wp2_with fail
  go_loopw [16] (fun v8 wr => ∃ i : Nat, v8 = .int .i64 (i : Int) ∧ i ≤ m ∧ Hid (Wo B B ((xs.take i).flatten) w2 wr)) (fun v8 _ => m - (intOf v8).toNat)
  case atStart => exact ⟨0, rfl, by omega, H0.out⟩
  case round =>
    obtain ⟨i, rfl, hi1, hw⟩ := hrel
    have BW : Hid (Below W.heap.size W wr) := B2.out.trans (hw.out.2.1.mono WB.out)
    by_cases hi2 : i < m
    · have hit : i < ts.length := by rw [← HNN.out]; exact hi2
      have hix : i < xs.length := by rw [HXN.out]; exact hi2
      have hig : i < gs.length := by rw [HGL.out]; exact hit
      obtain ⟨rfl, -⟩ := HAO.out (by omega)
      obtain ⟨c0, -⟩ := (HC.out wr BW.out).2.2 i hit hig
      have zz : Sz ((xs.take i).flatten) xs[i] := by
        have h1 := flat_le xs (i + 1)
        rw [flat_take hix, List.length_append] at h1
        have h2 := HZ.out
        unfold Sz at h2 ⊢
        simp only [List.length_nil] at h2
        omega
      have ex := HX.out i hit hix
      have CT := flat_take hix
      rw [ex] at zz CT
      have J1 := hide (HV.out i hit B B _ wr _ hw.out.1 (ND.out wr B BW.out WB.out i hit hig) (HP.out wr B BW.out WB.out) zz)
      have i9 : (i : Int) < (m : Int) := by omega
      have E1 : Hid ((xs.take i).flatten ++ prMb f ts[i] = (xs.take (i + 1)).flatten) := by
        unfold Hid
        rw [CT]
      generalize prMb f ts[i] = pm at *
      generalize gs[i] = gi at *
      clear zz hix hit hig ex CT
      go_wp2_with fail
      refine J1.out.mono ?_
      rintro e w3 ⟨rfl, h3⟩
      have H3 : Hid (Wo B B ((xs.take (i + 1)).flatten) w2 w3) := by
        have := hw.out.trans h3
        rw [E1.out] at this
        exact this
      clear h3 J1 c0
      go_wp2_with fail
      exact ⟨⟨i + 1, by go_num, by omega, H3.out⟩, by simp [intOf]; omega⟩
    · obtain rfl : m = i := by omega
      have H9 : Hid (Wo B B xs.flatten w2 wr) := by
        have h := hw.out
        rw [← HXN.out, List.take_length] at h
        exact h
      have J := hide (string_w H9.out.1 HNE.out)
      go_wp2_with fail
      refine J.out.mono ?_
      rintro e w3 ⟨rfl, h3⟩
      have HF : Hid (Below W.heap.size W w3) := BW.out.trans (h3.mono WB.out)
      clear h3 J
      go_wp2_with fail
      go_ret
      exact ⟨rfl, HF.out⟩
end Go.Proofs.YtmfoehaeejhlpaaGreatDoor
