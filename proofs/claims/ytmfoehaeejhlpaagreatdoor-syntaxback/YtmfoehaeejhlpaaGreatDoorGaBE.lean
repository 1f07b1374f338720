import Derived.Test.YtmfoehaeejhlpaaGreatDoorGaBD
/-
  What writes: loops, branches.
-/
namespace Go.Proofs.YtmfoehaeejhlpaaGreatDoor
open Go.RowKit Yn
set_option maxRecDepth 100000
def tabB (k : Nat) : List UInt8 := List.replicate k 9
mutual
/-- A statement, so many tabs in. -/
def prSt : Nat → Tree → Nat → List UInt8
  | 0, _, _ => []
  | f + 1, T, k => if opT T = 13 then prBr f T k else if opT T = 14 then [119, 104, 105, 108, 101, 32] ++ prE ((lsT T).getD 0 nilT) ++ prBk f ((lsT T).getD 1 nilT) k else if opT T = 15 then [114, 101, 112, 101, 97, 116, 32] ++ prE ((lsT T).getD 0 nilT) ++ prBk f ((lsT T).getD 1 nilT) k else prM T ++ [59]
def prBr : Nat → Tree → Nat → List UInt8
  | 0, _, _ => []
  | f + 1, T, k => ([105, 102, 32] ++ prE ((lsT T).getD 0 nilT) ++ prBk f ((lsT T).getD 1 nilT) k) ++ (if (lsT T).length = 2 then [] else [32, 101, 108, 115, 101] ++ (if opT ((lsT T).getD 2 nilT) = 13 then [32] ++ prBr f ((lsT T).getD 2 nilT) k else prBk f ((lsT T).getD 2 nilT) k))
def prBk : Nat → Tree → Nat → List UInt8
  | 0, _, _ => []
  | f + 1, T, k => [32, 123, 10] ++ ((lsT T).map fun s => tabB (k + 1) ++ prSt f s (k + 1) ++ [10]).flatten ++ (tabB k ++ [125])
end
/-- A block is written so. -/
def BlkW (f : Nat) (T : Tree) (k : Nat) : Prop := ∀ (B g : Nat) (l : List UInt8) (w : World) (v : Value), Bt B g l w → Nd (fun q => q < B) w T v → Pf B w → Sz l (prBk f T k) → Calls Tryz.prog 59 #[.pointer (some ⟨g, 0, none⟩), v, .int .i64 (k : Int)] w (Wrt B g l (prBk f T k) w)
def BrW (f : Nat) (T : Tree) (k : Nat) : Prop := ∀ (B g : Nat) (l : List UInt8) (w : World) (v : Value), Bt B g l w → Nd (fun q => q < B) w T v → Pf B w → Sz l (prBr f T k) → Calls Tryz.prog 121 #[.pointer (some ⟨g, 0, none⟩), v, .int .i64 (k : Int)] w (Wrt B g l (prBr f T k) w)
def StW (f : Nat) (T : Tree) (k : Nat) : Prop := ∀ (B g : Nat) (l : List UInt8) (w : World) (v : Value), Bt B g l w → Nd (fun q => q < B) w T v → Pf B w → Sz l (prSt f T k) → Calls Tryz.prog 89 #[.pointer (some ⟨g, 0, none⟩), v, .int .i64 (k : Int)] w (Wrt B g l (prSt f T k) w)
set_option maxHeartbeats 4000000 in
theorem loop_w {f k op : Nat} {t : ByteArray} {n : Int} {l : List Tree} {a : Nat} (word : ByteArray) (hl : 2 ≤ l.length) (e0 : EW l[0]) (q1 : BlkW f l[1] k) {B g : Nat} {lw : List UInt8} {w : World} {v : Value} (hb : Bt B g lw w) (hnd : Nd (fun q => q < B) w (.mk op t n l a) v) (hpf : Pf B w) (hz : Sz lw (word.data.toList ++ prE l[0] ++ prBk f l[1] k)) : Calls Tryz.prog 122 #[.pointer (some ⟨g, 0, none⟩), .string word, v, .int .i64 (k : Int)] w (Wrt B g lw (word.data.toList ++ prE l[0] ++ prBk f l[1] k) w) := by
  obtain ⟨gn, ao, c, gl, gs, rfl, hce, hcap, hch⟩ := nd_open hnd
  obtain ⟨rfl, -⟩ := hch.2.1 (by omega)
  have CE : Hid (∀ w', Below B w w' → Ce B w' gn op t n (some ⟨gl, 0, none⟩) l.length c) := fun w' h => hce.below h
  obtain ⟨g0, k0⟩ := ch_at hch 0 (by omega)
  have K0 : Hid (∀ w', Below B w w' → w'.cell? ⟨gl, 0, none⟩ = some (.pointer (some ⟨g0, 0, none⟩))) := fun w' h => (k0 w' h).1
  have hl0 : (0 : Int) < (l.length : Int) := by omega
  obtain ⟨g1, k1⟩ := ch_at hch 1 (by omega)
  have K1 : Hid (∀ w', Below B w w' → w'.cell? ⟨gl, 1, none⟩ = some (.pointer (some ⟨g1, 0, none⟩))) := fun w' h => (k1 w' h).1
  have hl1 : (1 : Int) < (l.length : Int) := by omega
  have J0 : Hid (∀ w', Wo B g (lw) w w' → Calls Tryz.prog 57 #[.pointer (some ⟨g, 0, none⟩), .slice (some ⟨w'.heap.size, 0, none⟩) 1 1] (w'.alloc (.cells #[.string word] 9)) (Wrt B g (lw) word.data.toList w')) := fun w' h => put1 word h.1 (show Sz (lw) word.data.toList from (by
      have := hz
      unfold Sz at this ⊢
      (try simp only [List.length_append] at this ⊢)
      omega))
  have J1 : Hid (∀ w', Wo B g (lw ++ word.data.toList) w w' → Calls Tryz.prog 149 #[.pointer (some ⟨g, 0, none⟩), .pointer (some ⟨g0, 0, none⟩)] w' (Wrt B g (lw ++ word.data.toList) (prE l[0]) w')) := fun w' h => e0 B g _ w' _ h.1 (k0 w' h.2.1).2 (hpf.below h.2.1) (show Sz (lw ++ word.data.toList) (prE l[0]) from (by
      have := hz
      unfold Sz at this ⊢
      (try simp only [List.length_append] at this ⊢)
      omega))
  have J2 : Hid (∀ w', Wo B g (lw ++ word.data.toList ++ (prE l[0])) w w' → Calls Tryz.prog 59 #[.pointer (some ⟨g, 0, none⟩), .pointer (some ⟨g1, 0, none⟩), .int .i64 (k : Int)] w' (Wrt B g (lw ++ word.data.toList ++ (prE l[0])) (prBk f l[1] k) w')) := fun w' h => q1 B g _ w' _ h.1 (k1 w' h.2.1).2 (hpf.below h.2.1) (show Sz (lw ++ word.data.toList ++ (prE l[0])) (prBk f l[1] k) from (by
      have := hz
      unfold Sz at this ⊢
      (try simp only [List.length_append] at this ⊢)
      omega))
  have H0 : Hid (Wo B g lw w w) := Wo.refl hb
  clear hnd hce hch hpf hz hb k0 k1
  go_enter Tryz.func122, Tryz.ntmps122
  obtain ⟨-, d0, d1, d2, d3⟩ := CE.out w H0.out.2.1
  have x0 := K0.out w H0.out.2.1
  have x1 := K1.out w H0.out.2.1
  have J := hide (J0.out w H0.out)
  clear J0
  go_wp2_with fail
  refine J.out.mono ?_
  rintro e w1 ⟨rfl, h⟩
  have H1 := hide (H0.out.trans h)
  clear h J H0 d0 d1 d2 d3 x0 x1
  obtain ⟨-, d0, d1, d2, d3⟩ := CE.out w1 H1.out.2.1
  have x0 := K0.out w1 H1.out.2.1
  have x1 := K1.out w1 H1.out.2.1
  have J := hide (J1.out w1 H1.out)
  clear J1
  go_wp2_with fail
  refine J.out.mono ?_
  rintro e w2 ⟨rfl, h⟩
  have H2 := hide (H1.out.trans h)
  clear h J H1 d0 d1 d2 d3 x0 x1
  obtain ⟨-, d0, d1, d2, d3⟩ := CE.out w2 H2.out.2.1
  have x0 := K0.out w2 H2.out.2.1
  have x1 := K1.out w2 H2.out.2.1
  have J := hide (J2.out w2 H2.out)
  clear J2
  go_wp2_with fail
  refine J.out.mono ?_
  rintro e w3 ⟨rfl, h⟩
  have H3 := hide (H2.out.trans h)
  clear h J H2 d0 d1 d2 d3 x0 x1
  go_wp2_with fail
  go_end0
  exact ⟨rfl, by have h := H3.out; first | exact h | (simp only [List.append_assoc] at h ⊢; exact h) | (simp only [List.append_assoc, List.cons_append, List.nil_append] at h ⊢; exact h)⟩
set_option maxHeartbeats 4000000 in
theorem br2 {f k op : Nat} {t : ByteArray} {n : Int} {l : List Tree} {a : Nat} (hl : l.length = 2) (e0 : EW l[0]) (q1 : BlkW f l[1] k) : BrW (f + 1) (.mk op t n l a) k := by
  intro B g lw w v hb hnd hpf hz
  obtain ⟨gn, ao, c, gl, gs, rfl, hce, hcap, hch⟩ := nd_open hnd
  obtain ⟨rfl, -⟩ := hch.2.1 (by omega)
  have ET : prBr (f + 1) (.mk op t n l a) k = (([105, 102, 32] : List UInt8) ++ prE l[0] ++ prBk f l[1] k) := by
    rw [prBr]
    show _ ++ (if l.length = 2 then _ else _) = _
    rw [if_pos hl, List.append_nil]
    show _ ++ prE (l.getD 0 nilT) ++ prBk f (l.getD 1 nilT) k = _
    rw [getD_at (show 0 < l.length by omega), getD_at (show 1 < l.length by omega)]
  rw [ET] at hz ⊢
  have CE : Hid (∀ w', Below B w w' → Ce B w' gn op t n (some ⟨gl, 0, none⟩) l.length c) := fun w' h => hce.below h
  have hle : (l.length : Int) = 2 := by omega
  have J0 : Hid (∀ w', Wo B g (lw) w w' → Calls Tryz.prog 122 #[.pointer (some ⟨g, 0, none⟩), .string ⟨#[105, 102, 32]⟩, .pointer (some ⟨gn, 0, none⟩), .int .i64 (k : Int)] w' (Wrt B g (lw) (([105, 102, 32] : List UInt8) ++ prE l[0] ++ prBk f l[1] k) w')) := fun w' h => loop_w ⟨#[105, 102, 32]⟩ (by omega) e0 q1 h.1 (hnd.below h.2.1) (hpf.below h.2.1) (show Sz (lw) (([105, 102, 32] : List UInt8) ++ prE l[0] ++ prBk f l[1] k) from (by
      have := hz
      unfold Sz at this ⊢
      (try simp only [List.length_append] at this ⊢)
      omega))
  have H0 : Hid (Wo B g lw w w) := Wo.refl hb
  clear hnd hce hch hpf hz hb ET hcap
  go_enter Tryz.func121, Tryz.ntmps121
  obtain ⟨-, d0, d1, d2, d3⟩ := CE.out w H0.out.2.1
  have J := hide (J0.out w H0.out)
  clear J0
  go_wp2_with fail
  refine J.out.mono ?_
  rintro e w1 ⟨rfl, h⟩
  have H1 := hide (H0.out.trans h)
  clear h J H0 d0 d1 d2 d3
  obtain ⟨-, d0, d1, d2, d3⟩ := CE.out w1 H1.out.2.1
  go_wp2_with fail
  go_end0
  exact ⟨rfl, by have h := H1.out; first | exact h | (simp only [List.append_assoc] at h ⊢; exact h) | (simp only [List.append_assoc, List.cons_append, List.nil_append] at h ⊢; exact h)⟩
set_option maxHeartbeats 4000000 in
theorem br3 {f k op : Nat} {t : ByteArray} {n : Int} {l : List Tree} {a : Nat} (hl : 3 ≤ l.length) (e0 : EW l[0]) (q1 : BlkW f l[1] k) (h13 : opT l[2] = 13) (q2 : BrW f l[2] k) : BrW (f + 1) (.mk op t n l a) k := by
  intro B g lw w v hb hnd hpf hz
  obtain ⟨gn, ao, c, gl, gs, rfl, hce, hcap, hch⟩ := nd_open hnd
  obtain ⟨rfl, -⟩ := hch.2.1 (by omega)
  have ET : prBr (f + 1) (.mk op t n l a) k = (([105, 102, 32] : List UInt8) ++ prE l[0] ++ prBk f l[1] k) ++ (([32, 101, 108, 115, 101] : List UInt8) ++ (([32] : List UInt8) ++ prBr f l[2] k)) := by
    rw [prBr]
    show _ ++ (if l.length = 2 then _ else _ ++ (if opT (l.getD 2 nilT) = 13 then _ else _)) = _
    rw [getD_at (show 2 < l.length by omega), if_neg (by omega), if_pos h13]
    show _ ++ prE (l.getD 0 nilT) ++ prBk f (l.getD 1 nilT) k ++ (_ ++ (_ ++ prBr f (l.getD 2 nilT) k)) = _
    rw [getD_at (show 0 < l.length by omega), getD_at (show 1 < l.length by omega), getD_at (show 2 < l.length by omega)]
  rw [ET] at hz ⊢
  have CE : Hid (∀ w', Below B w w' → Ce B w' gn op t n (some ⟨gl, 0, none⟩) l.length c) := fun w' h => hce.below h
  obtain ⟨g2, k2⟩ := ch_at hch 2 (by omega)
  have K2 : Hid (∀ w', Below B w w' → w'.cell? ⟨gl, 2, none⟩ = some (.pointer (some ⟨g2, 0, none⟩))) := fun w' h => (k2 w' h).1
  have hl2 : (2 : Int) < (l.length : Int) := by omega
  have KO : Hid (∀ w', Below B w w' → w'.cell? ⟨g2, 0, none⟩ = some (.int .i64 (opT l[2] : Int))) := fun w' h => by
    have hn2 := (k2 w' h).2
    generalize l[2] = T at hn2 ⊢
    obtain ⟨op, tx, nn, ll, aa⟩ := T
    obtain ⟨g', ao', c', gl', gs', e2, hce', -, -⟩ := nd_open hn2
    injection e2 with e2
    injection e2 with e2
    injection e2 with e2 _ _
    rw [e2]
    exact hce'.2.1
  have hle : ¬ (l.length : Int) = 2 := by omega
  have J0 : Hid (∀ w', Wo B g (lw) w w' → Calls Tryz.prog 122 #[.pointer (some ⟨g, 0, none⟩), .string ⟨#[105, 102, 32]⟩, .pointer (some ⟨gn, 0, none⟩), .int .i64 (k : Int)] w' (Wrt B g (lw) (([105, 102, 32] : List UInt8) ++ prE l[0] ++ prBk f l[1] k) w')) := fun w' h => loop_w ⟨#[105, 102, 32]⟩ (by omega) e0 q1 h.1 (hnd.below h.2.1) (hpf.below h.2.1) (show Sz (lw) (([105, 102, 32] : List UInt8) ++ prE l[0] ++ prBk f l[1] k) from (by
      have := hz
      unfold Sz at this ⊢
      (try simp only [List.length_append] at this ⊢)
      omega))
  have J1 : Hid (∀ w', Wo B g (lw ++ (([105, 102, 32] : List UInt8) ++ prE l[0] ++ prBk f l[1] k)) w w' → Calls Tryz.prog 57 #[.pointer (some ⟨g, 0, none⟩), .slice (some ⟨w'.heap.size, 0, none⟩) 1 1] (w'.alloc (.cells #[.string ⟨#[32, 101, 108, 115, 101]⟩] 9)) (Wrt B g (lw ++ (([105, 102, 32] : List UInt8) ++ prE l[0] ++ prBk f l[1] k)) ([32, 101, 108, 115, 101] : List UInt8) w')) := fun w' h => put1 ⟨#[32, 101, 108, 115, 101]⟩ h.1 (show Sz (lw ++ (([105, 102, 32] : List UInt8) ++ prE l[0] ++ prBk f l[1] k)) ([32, 101, 108, 115, 101] : List UInt8) from (by
      have := hz
      unfold Sz at this ⊢
      (try simp only [List.length_append] at this ⊢)
      omega))
  have J2 : Hid (∀ w', Wo B g (lw ++ (([105, 102, 32] : List UInt8) ++ prE l[0] ++ prBk f l[1] k) ++ ([32, 101, 108, 115, 101] : List UInt8)) w w' → Calls Tryz.prog 57 #[.pointer (some ⟨g, 0, none⟩), .slice (some ⟨w'.heap.size, 0, none⟩) 1 1] (w'.alloc (.cells #[.string ⟨#[32]⟩] 9)) (Wrt B g (lw ++ (([105, 102, 32] : List UInt8) ++ prE l[0] ++ prBk f l[1] k) ++ ([32, 101, 108, 115, 101] : List UInt8)) ([32] : List UInt8) w')) := fun w' h => put1 ⟨#[32]⟩ h.1 (show Sz (lw ++ (([105, 102, 32] : List UInt8) ++ prE l[0] ++ prBk f l[1] k) ++ ([32, 101, 108, 115, 101] : List UInt8)) ([32] : List UInt8) from (by
      have := hz
      unfold Sz at this ⊢
      (try simp only [List.length_append] at this ⊢)
      omega))
  have J3 : Hid (∀ w', Wo B g (lw ++ (([105, 102, 32] : List UInt8) ++ prE l[0] ++ prBk f l[1] k) ++ ([32, 101, 108, 115, 101] : List UInt8) ++ ([32] : List UInt8)) w w' → Calls Tryz.prog 121 #[.pointer (some ⟨g, 0, none⟩), .pointer (some ⟨g2, 0, none⟩), .int .i64 (k : Int)] w' (Wrt B g (lw ++ (([105, 102, 32] : List UInt8) ++ prE l[0] ++ prBk f l[1] k) ++ ([32, 101, 108, 115, 101] : List UInt8) ++ ([32] : List UInt8)) (prBr f l[2] k) w')) := fun w' h => q2 B g _ w' _ h.1 (k2 w' h.2.1).2 (hpf.below h.2.1) (show Sz (lw ++ (([105, 102, 32] : List UInt8) ++ prE l[0] ++ prBk f l[1] k) ++ ([32, 101, 108, 115, 101] : List UInt8) ++ ([32] : List UInt8)) (prBr f l[2] k) from (by
      have := hz
      unfold Sz at this ⊢
      (try simp only [List.length_append] at this ⊢)
      omega))
  have H0 : Hid (Wo B g lw w w) := Wo.refl hb
  clear hnd hce hch hpf hz hb ET hcap k2
  go_enter Tryz.func121, Tryz.ntmps121
  obtain ⟨-, d0, d1, d2, d3⟩ := CE.out w H0.out.2.1
  have x2 := K2.out w H0.out.2.1
  have J := hide (J0.out w H0.out)
  clear J0
  go_wp2_with fail
  refine J.out.mono ?_
  rintro e w1 ⟨rfl, h⟩
  have H1 := hide (H0.out.trans h)
  clear h J H0 d0 d1 d2 d3 x2
  obtain ⟨-, d0, d1, d2, d3⟩ := CE.out w1 H1.out.2.1
  have x2 := K2.out w1 H1.out.2.1
  have J := hide (J1.out w1 H1.out)
  clear J1
  go_wp2_with fail
  refine J.out.mono ?_
  rintro e w2 ⟨rfl, h⟩
  have H2 := hide (H1.out.trans h)
  clear h J H1 d0 d1 d2 d3 x2
  obtain ⟨-, d0, d1, d2, d3⟩ := CE.out w2 H2.out.2.1
  have x2 := K2.out w2 H2.out.2.1
  have J := hide (J2.out w2 H2.out)
  clear J2
  have y2 := KO.out w2 H2.out.2.1
  rw [h13] at y2
  go_wp2_with fail
  refine J.out.mono ?_
  rintro e w3 ⟨rfl, h⟩
  have H3 := hide (H2.out.trans h)
  clear h J H2 d0 d1 d2 d3 x2
  obtain ⟨-, d0, d1, d2, d3⟩ := CE.out w3 H3.out.2.1
  have x2 := K2.out w3 H3.out.2.1
  have J := hide (J3.out w3 H3.out)
  clear J3
  go_wp2_with fail
  refine J.out.mono ?_
  rintro e w4 ⟨rfl, h⟩
  have H4 := hide (H3.out.trans h)
  clear h J H3 d0 d1 d2 d3 x2
  go_wp2_with fail
  go_end0
  exact ⟨rfl, by have h := H4.out; first | exact h | (simp only [List.append_assoc] at h ⊢; exact h) | (simp only [List.append_assoc, List.cons_append, List.nil_append] at h ⊢; exact h)⟩
set_option maxHeartbeats 4000000 in
theorem br4 {f k op : Nat} {t : ByteArray} {n : Int} {l : List Tree} {a : Nat} (hl : 3 ≤ l.length) (e0 : EW l[0]) (q1 : BlkW f l[1] k) (h13 : ¬ opT l[2] = 13) (q2 : BlkW f l[2] k) : BrW (f + 1) (.mk op t n l a) k := by
  intro B g lw w v hb hnd hpf hz
  obtain ⟨gn, ao, c, gl, gs, rfl, hce, hcap, hch⟩ := nd_open hnd
  obtain ⟨rfl, -⟩ := hch.2.1 (by omega)
  have ET : prBr (f + 1) (.mk op t n l a) k = (([105, 102, 32] : List UInt8) ++ prE l[0] ++ prBk f l[1] k) ++ (([32, 101, 108, 115, 101] : List UInt8) ++ prBk f l[2] k) := by
    rw [prBr]
    show _ ++ (if l.length = 2 then _ else _ ++ (if opT (l.getD 2 nilT) = 13 then _ else _)) = _
    rw [getD_at (show 2 < l.length by omega), if_neg (by omega), if_neg h13]
    show _ ++ prE (l.getD 0 nilT) ++ prBk f (l.getD 1 nilT) k ++ (_ ++ prBk f (l.getD 2 nilT) k) = _
    rw [getD_at (show 0 < l.length by omega), getD_at (show 1 < l.length by omega), getD_at (show 2 < l.length by omega)]
  rw [ET] at hz ⊢
  have CE : Hid (∀ w', Below B w w' → Ce B w' gn op t n (some ⟨gl, 0, none⟩) l.length c) := fun w' h => hce.below h
  obtain ⟨g2, k2⟩ := ch_at hch 2 (by omega)
  have K2 : Hid (∀ w', Below B w w' → w'.cell? ⟨gl, 2, none⟩ = some (.pointer (some ⟨g2, 0, none⟩))) := fun w' h => (k2 w' h).1
  have hl2 : (2 : Int) < (l.length : Int) := by omega
  have KO : Hid (∀ w', Below B w w' → w'.cell? ⟨g2, 0, none⟩ = some (.int .i64 (opT l[2] : Int))) := fun w' h => by
    have hn2 := (k2 w' h).2
    generalize l[2] = T at hn2 ⊢
    obtain ⟨op, tx, nn, ll, aa⟩ := T
    obtain ⟨g', ao', c', gl', gs', e2, hce', -, -⟩ := nd_open hn2
    injection e2 with e2
    injection e2 with e2
    injection e2 with e2 _ _
    rw [e2]
    exact hce'.2.1
  have hle : ¬ (l.length : Int) = 2 := by omega
  have J0 : Hid (∀ w', Wo B g (lw) w w' → Calls Tryz.prog 122 #[.pointer (some ⟨g, 0, none⟩), .string ⟨#[105, 102, 32]⟩, .pointer (some ⟨gn, 0, none⟩), .int .i64 (k : Int)] w' (Wrt B g (lw) (([105, 102, 32] : List UInt8) ++ prE l[0] ++ prBk f l[1] k) w')) := fun w' h => loop_w ⟨#[105, 102, 32]⟩ (by omega) e0 q1 h.1 (hnd.below h.2.1) (hpf.below h.2.1) (show Sz (lw) (([105, 102, 32] : List UInt8) ++ prE l[0] ++ prBk f l[1] k) from (by
      have := hz
      unfold Sz at this ⊢
      (try simp only [List.length_append] at this ⊢)
      omega))
  have J1 : Hid (∀ w', Wo B g (lw ++ (([105, 102, 32] : List UInt8) ++ prE l[0] ++ prBk f l[1] k)) w w' → Calls Tryz.prog 57 #[.pointer (some ⟨g, 0, none⟩), .slice (some ⟨w'.heap.size, 0, none⟩) 1 1] (w'.alloc (.cells #[.string ⟨#[32, 101, 108, 115, 101]⟩] 9)) (Wrt B g (lw ++ (([105, 102, 32] : List UInt8) ++ prE l[0] ++ prBk f l[1] k)) ([32, 101, 108, 115, 101] : List UInt8) w')) := fun w' h => put1 ⟨#[32, 101, 108, 115, 101]⟩ h.1 (show Sz (lw ++ (([105, 102, 32] : List UInt8) ++ prE l[0] ++ prBk f l[1] k)) ([32, 101, 108, 115, 101] : List UInt8) from (by
      have := hz
      unfold Sz at this ⊢
      (try simp only [List.length_append] at this ⊢)
      omega))
  have J2 : Hid (∀ w', Wo B g (lw ++ (([105, 102, 32] : List UInt8) ++ prE l[0] ++ prBk f l[1] k) ++ ([32, 101, 108, 115, 101] : List UInt8)) w w' → Calls Tryz.prog 59 #[.pointer (some ⟨g, 0, none⟩), .pointer (some ⟨g2, 0, none⟩), .int .i64 (k : Int)] w' (Wrt B g (lw ++ (([105, 102, 32] : List UInt8) ++ prE l[0] ++ prBk f l[1] k) ++ ([32, 101, 108, 115, 101] : List UInt8)) (prBk f l[2] k) w')) := fun w' h => q2 B g _ w' _ h.1 (k2 w' h.2.1).2 (hpf.below h.2.1) (show Sz (lw ++ (([105, 102, 32] : List UInt8) ++ prE l[0] ++ prBk f l[1] k) ++ ([32, 101, 108, 115, 101] : List UInt8)) (prBk f l[2] k) from (by
      have := hz
      unfold Sz at this ⊢
      (try simp only [List.length_append] at this ⊢)
      omega))
  have H0 : Hid (Wo B g lw w w) := Wo.refl hb
  clear hnd hce hch hpf hz hb ET hcap k2
  go_enter Tryz.func121, Tryz.ntmps121
  obtain ⟨-, d0, d1, d2, d3⟩ := CE.out w H0.out.2.1
  have x2 := K2.out w H0.out.2.1
  have J := hide (J0.out w H0.out)
  clear J0
  go_wp2_with fail
  refine J.out.mono ?_
  rintro e w1 ⟨rfl, h⟩
  have H1 := hide (H0.out.trans h)
  clear h J H0 d0 d1 d2 d3 x2
  obtain ⟨-, d0, d1, d2, d3⟩ := CE.out w1 H1.out.2.1
  have x2 := K2.out w1 H1.out.2.1
  have J := hide (J1.out w1 H1.out)
  clear J1
  go_wp2_with fail
  refine J.out.mono ?_
  rintro e w2 ⟨rfl, h⟩
  have H2 := hide (H1.out.trans h)
  clear h J H1 d0 d1 d2 d3 x2
  obtain ⟨-, d0, d1, d2, d3⟩ := CE.out w2 H2.out.2.1
  have x2 := K2.out w2 H2.out.2.1
  have J := hide (J2.out w2 H2.out)
  clear J2
  have y2 := KO.out w2 H2.out.2.1
  have n13 : ¬ (opT l[2] : Int) = 13 := by omega
  go_wp2_with fail
  refine J.out.mono ?_
  rintro e w3 ⟨rfl, h⟩
  have H3 := hide (H2.out.trans h)
  clear h J H2 d0 d1 d2 d3 x2
  go_wp2_with fail
  go_end0
  exact ⟨rfl, by have h := H3.out; first | exact h | (simp only [List.append_assoc] at h ⊢; exact h) | (simp only [List.append_assoc, List.cons_append, List.nil_append] at h ⊢; exact h)⟩
end Go.Proofs.YtmfoehaeejhlpaaGreatDoor
