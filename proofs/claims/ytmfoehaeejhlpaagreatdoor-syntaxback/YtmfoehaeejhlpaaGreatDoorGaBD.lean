import Derived.Test.YtmfoehaeejhlpaaGreatDoorGaBC
/-
  What writes: statements without blocks, way by way.
-/
namespace Go.Proofs.YtmfoehaeejhlpaaGreatDoor
open Go.RowKit Yn
set_option maxRecDepth 100000
def smB (op : Nat) (t : ByteArray) (l : List Tree) : List UInt8 :=
  if op = 10 then ([108, 101, 116, 32] ++ t.data.toList ++ [32, 61, 32]) ++ prE (l.getD 0 nilT)
  else if op = 11 then (t.data.toList ++ [32, 61, 32]) ++ prE (l.getD 0 nilT)
  else if op = 12 then (t.data.toList ++ [46] ++ (txT (l.getD 0 nilT)).data.toList ++ [32, 61, 32]) ++ prE (l.getD 1 nilT)
  else if op = 16 then [101, 109, 105, 116, 32] ++ comJ (l.map prE)
  else if op = 17 then [115, 112, 97, 119, 110] ++ ptB l
  else if op = 18 then [97, 100, 100] ++ ptB l
  else if op = 19 then [114, 101, 109, 111, 118, 101, 32] ++ t.data.toList
  else if op = 20 then [100, 105, 101]
  else if op = 21 then [115, 116, 111, 112]
  else if op = 22 then [114, 101, 116, 117, 114, 110, 32] ++ prE (l.getD 0 nilT)
  else []
def prM : Tree → List UInt8 | .mk op t _ l _ => smB op t l
/-- A statement without a block is written so. -/
def SW (T : Tree) : Prop := ∀ (B g : Nat) (l : List UInt8) (w : World) (v : Value), Bt B g l w → Nd (fun q => q < B) w T v → Pf B w → Sz l (prM T) → Calls Tryz.prog 123 #[.pointer (some ⟨g, 0, none⟩), v] w (Wrt B g l (prM T) w)
set_option maxHeartbeats 4000000 in
theorem sm10 {t : ByteArray} {n : Int} {l : List Tree} {a : Nat} (hl : 1 ≤ l.length) (e0 : EW l[0]) : SW (.mk 10 t n l a) := by
  intro B g lw w v hb hnd hpf hz
  obtain ⟨gn, ao, c, gl, gs, rfl, hce, hcap, hch⟩ := nd_open hnd
  obtain ⟨rfl, -⟩ := hch.2.1 (by omega)
  have ET : prM (.mk 10 t n l a) = (([108, 101, 116, 32] : List UInt8) ++ t.data.toList ++ ([32, 61, 32] : List UInt8)) ++ prE l[0] := by
    rw [← getD_at (show 0 < l.length by omega)]
    rfl
  rw [ET] at hz ⊢
  have CE : Hid (∀ w', Below B w w' → Ce B w' gn 10 t n (some ⟨gl, 0, none⟩) l.length c) := fun w' h => hce.below h
  obtain ⟨g0, k0⟩ := ch_at hch 0 (by omega)
  have K0 : Hid (∀ w', Below B w w' → w'.cell? ⟨gl, 0, none⟩ = some (.pointer (some ⟨g0, 0, none⟩))) := fun w' h => (k0 w' h).1
  have hl0 : (0 : Int) < (l.length : Int) := by omega
  have J0 : Hid (∀ w', Wo B g (lw) w w' → Calls Tryz.prog 57 #[.pointer (some ⟨g, 0, none⟩), .slice (some ⟨w'.heap.size, 0, none⟩) 3 3] (w'.alloc (.cells #[.string ⟨#[108, 101, 116, 32]⟩, .string t, .string ⟨#[32, 61, 32]⟩] 9)) (Wrt B g (lw) (([108, 101, 116, 32] : List UInt8) ++ t.data.toList ++ ([32, 61, 32] : List UInt8)) w')) := fun w' h => put3 ⟨#[108, 101, 116, 32]⟩ t ⟨#[32, 61, 32]⟩ h.1 (show Sz (lw) (([108, 101, 116, 32] : List UInt8) ++ t.data.toList ++ ([32, 61, 32] : List UInt8)) from (by
      have := hz
      unfold Sz at this ⊢
      (try simp only [List.length_append] at this ⊢)
      omega))
  have J1 : Hid (∀ w', Wo B g (lw ++ (([108, 101, 116, 32] : List UInt8) ++ t.data.toList ++ ([32, 61, 32] : List UInt8))) w w' → Calls Tryz.prog 149 #[.pointer (some ⟨g, 0, none⟩), .pointer (some ⟨g0, 0, none⟩)] w' (Wrt B g (lw ++ (([108, 101, 116, 32] : List UInt8) ++ t.data.toList ++ ([32, 61, 32] : List UInt8))) (prE l[0]) w')) := fun w' h => e0 B g _ w' _ h.1 (k0 w' h.2.1).2 (hpf.below h.2.1) (show Sz (lw ++ (([108, 101, 116, 32] : List UInt8) ++ t.data.toList ++ ([32, 61, 32] : List UInt8))) (prE l[0]) from (by
      have := hz
      unfold Sz at this ⊢
      (try simp only [List.length_append] at this ⊢)
      omega))
  have H0 : Hid (Wo B g lw w w) := Wo.refl hb
  clear hnd hce hch hpf hz hb ET k0
  go_enter Tryz.func123, Tryz.ntmps123
  obtain ⟨-, d0, d1, d2, d3⟩ := CE.out w H0.out.2.1
  have x0 := K0.out w H0.out.2.1
  have J := hide (J0.out w H0.out)
  clear J0
  go_wp2_with fail
  refine J.out.mono ?_
  rintro e w1 ⟨rfl, h⟩
  have H1 := hide (H0.out.trans h)
  clear h J H0 d0 d1 d2 d3 x0
  obtain ⟨-, d0, d1, d2, d3⟩ := CE.out w1 H1.out.2.1
  have x0 := K0.out w1 H1.out.2.1
  have J := hide (J1.out w1 H1.out)
  clear J1
  go_wp2_with fail
  refine J.out.mono ?_
  rintro e w2 ⟨rfl, h⟩
  have H2 := hide (H1.out.trans h)
  clear h J H1 d0 d1 d2 d3 x0
  go_wp2_with fail
  go_end0
  exact ⟨rfl, by have h := H2.out; first | exact h | (simp only [List.append_assoc] at h ⊢; exact h) | (simp only [List.append_assoc, List.cons_append, List.nil_append] at h ⊢; exact h)⟩
set_option maxHeartbeats 4000000 in
theorem sm11 {t : ByteArray} {n : Int} {l : List Tree} {a : Nat} (hl : 1 ≤ l.length) (e0 : EW l[0]) : SW (.mk 11 t n l a) := by
  intro B g lw w v hb hnd hpf hz
  obtain ⟨gn, ao, c, gl, gs, rfl, hce, hcap, hch⟩ := nd_open hnd
  obtain ⟨rfl, -⟩ := hch.2.1 (by omega)
  have ET : prM (.mk 11 t n l a) = (t.data.toList ++ ([32, 61, 32] : List UInt8)) ++ prE l[0] := by
    rw [← getD_at (show 0 < l.length by omega)]
    rfl
  rw [ET] at hz ⊢
  have CE : Hid (∀ w', Below B w w' → Ce B w' gn 11 t n (some ⟨gl, 0, none⟩) l.length c) := fun w' h => hce.below h
  obtain ⟨g0, k0⟩ := ch_at hch 0 (by omega)
  have K0 : Hid (∀ w', Below B w w' → w'.cell? ⟨gl, 0, none⟩ = some (.pointer (some ⟨g0, 0, none⟩))) := fun w' h => (k0 w' h).1
  have hl0 : (0 : Int) < (l.length : Int) := by omega
  have J0 : Hid (∀ w', Wo B g (lw) w w' → Calls Tryz.prog 57 #[.pointer (some ⟨g, 0, none⟩), .slice (some ⟨w'.heap.size, 0, none⟩) 2 2] (w'.alloc (.cells #[.string t, .string ⟨#[32, 61, 32]⟩] 9)) (Wrt B g (lw) (t.data.toList ++ ([32, 61, 32] : List UInt8)) w')) := fun w' h => put2 t ⟨#[32, 61, 32]⟩ h.1 (show Sz (lw) (t.data.toList ++ ([32, 61, 32] : List UInt8)) from (by
      have := hz
      unfold Sz at this ⊢
      (try simp only [List.length_append] at this ⊢)
      omega))
  have J1 : Hid (∀ w', Wo B g (lw ++ (t.data.toList ++ ([32, 61, 32] : List UInt8))) w w' → Calls Tryz.prog 149 #[.pointer (some ⟨g, 0, none⟩), .pointer (some ⟨g0, 0, none⟩)] w' (Wrt B g (lw ++ (t.data.toList ++ ([32, 61, 32] : List UInt8))) (prE l[0]) w')) := fun w' h => e0 B g _ w' _ h.1 (k0 w' h.2.1).2 (hpf.below h.2.1) (show Sz (lw ++ (t.data.toList ++ ([32, 61, 32] : List UInt8))) (prE l[0]) from (by
      have := hz
      unfold Sz at this ⊢
      (try simp only [List.length_append] at this ⊢)
      omega))
  have H0 : Hid (Wo B g lw w w) := Wo.refl hb
  clear hnd hce hch hpf hz hb ET k0
  go_enter Tryz.func123, Tryz.ntmps123
  obtain ⟨-, d0, d1, d2, d3⟩ := CE.out w H0.out.2.1
  have x0 := K0.out w H0.out.2.1
  have J := hide (J0.out w H0.out)
  clear J0
  go_wp2_with fail
  refine J.out.mono ?_
  rintro e w1 ⟨rfl, h⟩
  have H1 := hide (H0.out.trans h)
  clear h J H0 d0 d1 d2 d3 x0
  obtain ⟨-, d0, d1, d2, d3⟩ := CE.out w1 H1.out.2.1
  have x0 := K0.out w1 H1.out.2.1
  have J := hide (J1.out w1 H1.out)
  clear J1
  go_wp2_with fail
  refine J.out.mono ?_
  rintro e w2 ⟨rfl, h⟩
  have H2 := hide (H1.out.trans h)
  clear h J H1 d0 d1 d2 d3 x0
  go_wp2_with fail
  go_end0
  exact ⟨rfl, by have h := H2.out; first | exact h | (simp only [List.append_assoc] at h ⊢; exact h) | (simp only [List.append_assoc, List.cons_append, List.nil_append] at h ⊢; exact h)⟩
set_option maxHeartbeats 4000000 in
theorem sm22 {t : ByteArray} {n : Int} {l : List Tree} {a : Nat} (hl : 1 ≤ l.length) (e0 : EW l[0]) : SW (.mk 22 t n l a) := by
  intro B g lw w v hb hnd hpf hz
  obtain ⟨gn, ao, c, gl, gs, rfl, hce, hcap, hch⟩ := nd_open hnd
  obtain ⟨rfl, -⟩ := hch.2.1 (by omega)
  have ET : prM (.mk 22 t n l a) = ([114, 101, 116, 117, 114, 110, 32] : List UInt8) ++ prE l[0] := by
    rw [← getD_at (show 0 < l.length by omega)]
    rfl
  rw [ET] at hz ⊢
  have CE : Hid (∀ w', Below B w w' → Ce B w' gn 22 t n (some ⟨gl, 0, none⟩) l.length c) := fun w' h => hce.below h
  obtain ⟨g0, k0⟩ := ch_at hch 0 (by omega)
  have K0 : Hid (∀ w', Below B w w' → w'.cell? ⟨gl, 0, none⟩ = some (.pointer (some ⟨g0, 0, none⟩))) := fun w' h => (k0 w' h).1
  have hl0 : (0 : Int) < (l.length : Int) := by omega
  have J0 : Hid (∀ w', Wo B g (lw) w w' → Calls Tryz.prog 57 #[.pointer (some ⟨g, 0, none⟩), .slice (some ⟨w'.heap.size, 0, none⟩) 1 1] (w'.alloc (.cells #[.string ⟨#[114, 101, 116, 117, 114, 110, 32]⟩] 9)) (Wrt B g (lw) ([114, 101, 116, 117, 114, 110, 32] : List UInt8) w')) := fun w' h => put1 ⟨#[114, 101, 116, 117, 114, 110, 32]⟩ h.1 (show Sz (lw) ([114, 101, 116, 117, 114, 110, 32] : List UInt8) from (by
      have := hz
      unfold Sz at this ⊢
      (try simp only [List.length_append] at this ⊢)
      omega))
  have J1 : Hid (∀ w', Wo B g (lw ++ ([114, 101, 116, 117, 114, 110, 32] : List UInt8)) w w' → Calls Tryz.prog 149 #[.pointer (some ⟨g, 0, none⟩), .pointer (some ⟨g0, 0, none⟩)] w' (Wrt B g (lw ++ ([114, 101, 116, 117, 114, 110, 32] : List UInt8)) (prE l[0]) w')) := fun w' h => e0 B g _ w' _ h.1 (k0 w' h.2.1).2 (hpf.below h.2.1) (show Sz (lw ++ ([114, 101, 116, 117, 114, 110, 32] : List UInt8)) (prE l[0]) from (by
      have := hz
      unfold Sz at this ⊢
      (try simp only [List.length_append] at this ⊢)
      omega))
  have H0 : Hid (Wo B g lw w w) := Wo.refl hb
  clear hnd hce hch hpf hz hb ET k0
  go_enter Tryz.func123, Tryz.ntmps123
  obtain ⟨-, d0, d1, d2, d3⟩ := CE.out w H0.out.2.1
  have x0 := K0.out w H0.out.2.1
  have J := hide (J0.out w H0.out)
  clear J0
  go_wp2_with fail
  refine J.out.mono ?_
  rintro e w1 ⟨rfl, h⟩
  have H1 := hide (H0.out.trans h)
  clear h J H0 d0 d1 d2 d3 x0
  obtain ⟨-, d0, d1, d2, d3⟩ := CE.out w1 H1.out.2.1
  have x0 := K0.out w1 H1.out.2.1
  have J := hide (J1.out w1 H1.out)
  clear J1
  go_wp2_with fail
  refine J.out.mono ?_
  rintro e w2 ⟨rfl, h⟩
  have H2 := hide (H1.out.trans h)
  clear h J H1 d0 d1 d2 d3 x0
  go_wp2_with fail
  go_end0
  exact ⟨rfl, by have h := H2.out; first | exact h | (simp only [List.append_assoc] at h ⊢; exact h) | (simp only [List.append_assoc, List.cons_append, List.nil_append] at h ⊢; exact h)⟩
set_option maxHeartbeats 4000000 in
theorem sm16 {t : ByteArray} {n : Int} {l : List Tree} {a : Nat} (he : ∀ i (h : i < l.length), EW l[i]) (hn : l.length ≤ 1048576) : SW (.mk 16 t n l a) := by
  intro B g lw w v hb hnd hpf hz
  obtain ⟨gn, ao, c, gl, gs, rfl, hce, hcap, hch⟩ := nd_open hnd
  have ET : prM (.mk 16 t n l a) = ([101, 109, 105, 116, 32] : List UInt8) ++ comJ (l.map prE) := by
    rfl
  rw [ET] at hz ⊢
  have CE : Hid (∀ w', Below B w w' → Ce B w' gn 16 t n ao l.length c) := fun w' h => hce.below h
  have J0 : Hid (∀ w', Wo B g (lw) w w' → Calls Tryz.prog 57 #[.pointer (some ⟨g, 0, none⟩), .slice (some ⟨w'.heap.size, 0, none⟩) 1 1] (w'.alloc (.cells #[.string ⟨#[101, 109, 105, 116, 32]⟩] 9)) (Wrt B g (lw) ([101, 109, 105, 116, 32] : List UInt8) w')) := fun w' h => put1 ⟨#[101, 109, 105, 116, 32]⟩ h.1 (show Sz (lw) ([101, 109, 105, 116, 32] : List UInt8) from (by
      have := hz
      unfold Sz at this ⊢
      (try simp only [List.length_append] at this ⊢)
      omega))
  have J1 : Hid (∀ w', Wo B g (lw ++ ([101, 109, 105, 116, 32] : List UInt8)) w w' → Calls Tryz.prog 150 #[.pointer (some ⟨g, 0, none⟩), .slice ao l.length c] w' (Wrt B g (lw ++ ([101, 109, 105, 116, 32] : List UInt8)) (comJ (l.map prE)) w')) := fun w' h => exprs_w l he h.1 (hch.below h.2.1) (hpf.below h.2.1) hn (show Sz (lw ++ ([101, 109, 105, 116, 32] : List UInt8)) (comJ (l.map prE)) from (by
      have := hz
      unfold Sz at this ⊢
      (try simp only [List.length_append] at this ⊢)
      omega))
  have H0 : Hid (Wo B g lw w w) := Wo.refl hb
  clear hnd hce hch hpf hz hb ET
  go_enter Tryz.func123, Tryz.ntmps123
  obtain ⟨-, d0, d1, d2, d3⟩ := CE.out w H0.out.2.1
  have J := hide (J0.out w H0.out)
  clear J0
  go_wp2_with fail
  refine J.out.mono ?_
  rintro e w1 ⟨rfl, h⟩
  have H1 := hide (H0.out.trans h)
  clear h J H0 d0 d1 d2 d3
  obtain ⟨-, d0, d1, d2, d3⟩ := CE.out w1 H1.out.2.1
  have J := hide (J1.out w1 H1.out)
  clear J1
  go_wp2_with fail
  refine J.out.mono ?_
  rintro e w2 ⟨rfl, h⟩
  have H2 := hide (H1.out.trans h)
  clear h J H1 d0 d1 d2 d3
  go_wp2_with fail
  go_end0
  exact ⟨rfl, by have h := H2.out; first | exact h | (simp only [List.append_assoc] at h ⊢; exact h) | (simp only [List.append_assoc, List.cons_append, List.nil_append] at h ⊢; exact h)⟩
set_option maxHeartbeats 4000000 in
theorem sm17 {t : ByteArray} {n : Int} {l : List Tree} {a : Nat} (he : ∀ i (h : i < l.length), PW l[i]) (hn : l.length ≤ 1048576) : SW (.mk 17 t n l a) := by
  intro B g lw w v hb hnd hpf hz
  obtain ⟨gn, ao, c, gl, gs, rfl, hce, hcap, hch⟩ := nd_open hnd
  have ET : prM (.mk 17 t n l a) = ([115, 112, 97, 119, 110] : List UInt8) ++ ptB l := by
    rfl
  rw [ET] at hz ⊢
  have CE : Hid (∀ w', Below B w w' → Ce B w' gn 17 t n ao l.length c) := fun w' h => hce.below h
  have J0 : Hid (∀ w', Wo B g (lw) w w' → Calls Tryz.prog 57 #[.pointer (some ⟨g, 0, none⟩), .slice (some ⟨w'.heap.size, 0, none⟩) 1 1] (w'.alloc (.cells #[.string ⟨#[115, 112, 97, 119, 110]⟩] 9)) (Wrt B g (lw) ([115, 112, 97, 119, 110] : List UInt8) w')) := fun w' h => put1 ⟨#[115, 112, 97, 119, 110]⟩ h.1 (show Sz (lw) ([115, 112, 97, 119, 110] : List UInt8) from (by
      have := hz
      unfold Sz at this ⊢
      (try simp only [List.length_append] at this ⊢)
      omega))
  have J1 : Hid (∀ w', Wo B g (lw ++ ([115, 112, 97, 119, 110] : List UInt8)) w w' → Calls Tryz.prog 151 #[.pointer (some ⟨g, 0, none⟩), .slice ao l.length c] w' (Wrt B g (lw ++ ([115, 112, 97, 119, 110] : List UInt8)) (ptB l) w')) := fun w' h => parts_w l he h.1 (hch.below h.2.1) (hpf.below h.2.1) hn (show Sz (lw ++ ([115, 112, 97, 119, 110] : List UInt8)) (ptB l) from (by
      have := hz
      unfold Sz at this ⊢
      (try simp only [List.length_append] at this ⊢)
      omega))
  have H0 : Hid (Wo B g lw w w) := Wo.refl hb
  clear hnd hce hch hpf hz hb ET
  go_enter Tryz.func123, Tryz.ntmps123
  obtain ⟨-, d0, d1, d2, d3⟩ := CE.out w H0.out.2.1
  have J := hide (J0.out w H0.out)
  clear J0
  go_wp2_with fail
  refine J.out.mono ?_
  rintro e w1 ⟨rfl, h⟩
  have H1 := hide (H0.out.trans h)
  clear h J H0 d0 d1 d2 d3
  obtain ⟨-, d0, d1, d2, d3⟩ := CE.out w1 H1.out.2.1
  have J := hide (J1.out w1 H1.out)
  clear J1
  go_wp2_with fail
  refine J.out.mono ?_
  rintro e w2 ⟨rfl, h⟩
  have H2 := hide (H1.out.trans h)
  clear h J H1 d0 d1 d2 d3
  go_wp2_with fail
  go_end0
  exact ⟨rfl, by have h := H2.out; first | exact h | (simp only [List.append_assoc] at h ⊢; exact h) | (simp only [List.append_assoc, List.cons_append, List.nil_append] at h ⊢; exact h)⟩
set_option maxHeartbeats 4000000 in
theorem sm18 {t : ByteArray} {n : Int} {l : List Tree} {a : Nat} (he : ∀ i (h : i < l.length), PW l[i]) (hn : l.length ≤ 1048576) : SW (.mk 18 t n l a) := by
  intro B g lw w v hb hnd hpf hz
  obtain ⟨gn, ao, c, gl, gs, rfl, hce, hcap, hch⟩ := nd_open hnd
  have ET : prM (.mk 18 t n l a) = ([97, 100, 100] : List UInt8) ++ ptB l := by
    rfl
  rw [ET] at hz ⊢
  have CE : Hid (∀ w', Below B w w' → Ce B w' gn 18 t n ao l.length c) := fun w' h => hce.below h
  have J0 : Hid (∀ w', Wo B g (lw) w w' → Calls Tryz.prog 57 #[.pointer (some ⟨g, 0, none⟩), .slice (some ⟨w'.heap.size, 0, none⟩) 1 1] (w'.alloc (.cells #[.string ⟨#[97, 100, 100]⟩] 9)) (Wrt B g (lw) ([97, 100, 100] : List UInt8) w')) := fun w' h => put1 ⟨#[97, 100, 100]⟩ h.1 (show Sz (lw) ([97, 100, 100] : List UInt8) from (by
      have := hz
      unfold Sz at this ⊢
      (try simp only [List.length_append] at this ⊢)
      omega))
  have J1 : Hid (∀ w', Wo B g (lw ++ ([97, 100, 100] : List UInt8)) w w' → Calls Tryz.prog 151 #[.pointer (some ⟨g, 0, none⟩), .slice ao l.length c] w' (Wrt B g (lw ++ ([97, 100, 100] : List UInt8)) (ptB l) w')) := fun w' h => parts_w l he h.1 (hch.below h.2.1) (hpf.below h.2.1) hn (show Sz (lw ++ ([97, 100, 100] : List UInt8)) (ptB l) from (by
      have := hz
      unfold Sz at this ⊢
      (try simp only [List.length_append] at this ⊢)
      omega))
  have H0 : Hid (Wo B g lw w w) := Wo.refl hb
  clear hnd hce hch hpf hz hb ET
  go_enter Tryz.func123, Tryz.ntmps123
  obtain ⟨-, d0, d1, d2, d3⟩ := CE.out w H0.out.2.1
  have J := hide (J0.out w H0.out)
  clear J0
  go_wp2_with fail
  refine J.out.mono ?_
  rintro e w1 ⟨rfl, h⟩
  have H1 := hide (H0.out.trans h)
  clear h J H0 d0 d1 d2 d3
  obtain ⟨-, d0, d1, d2, d3⟩ := CE.out w1 H1.out.2.1
  have J := hide (J1.out w1 H1.out)
  clear J1
  go_wp2_with fail
  refine J.out.mono ?_
  rintro e w2 ⟨rfl, h⟩
  have H2 := hide (H1.out.trans h)
  clear h J H1 d0 d1 d2 d3
  go_wp2_with fail
  go_end0
  exact ⟨rfl, by have h := H2.out; first | exact h | (simp only [List.append_assoc] at h ⊢; exact h) | (simp only [List.append_assoc, List.cons_append, List.nil_append] at h ⊢; exact h)⟩
set_option maxHeartbeats 4000000 in
theorem sm19 {t : ByteArray} {n : Int} {l : List Tree} {a : Nat} : SW (.mk 19 t n l a) := by
  intro B g lw w v hb hnd hpf hz
  obtain ⟨gn, ao, c, gl, gs, rfl, hce, hcap, hch⟩ := nd_open hnd
  have ET : prM (.mk 19 t n l a) = ([114, 101, 109, 111, 118, 101, 32] : List UInt8) ++ t.data.toList := by
    rfl
  rw [ET] at hz ⊢
  have CE : Hid (∀ w', Below B w w' → Ce B w' gn 19 t n ao l.length c) := fun w' h => hce.below h
  have J0 : Hid (∀ w', Wo B g (lw) w w' → Calls Tryz.prog 57 #[.pointer (some ⟨g, 0, none⟩), .slice (some ⟨w'.heap.size, 0, none⟩) 2 2] (w'.alloc (.cells #[.string ⟨#[114, 101, 109, 111, 118, 101, 32]⟩, .string t] 9)) (Wrt B g (lw) (([114, 101, 109, 111, 118, 101, 32] : List UInt8) ++ t.data.toList) w')) := fun w' h => put2 ⟨#[114, 101, 109, 111, 118, 101, 32]⟩ t h.1 (show Sz (lw) (([114, 101, 109, 111, 118, 101, 32] : List UInt8) ++ t.data.toList) from (by
      have := hz
      unfold Sz at this ⊢
      (try simp only [List.length_append] at this ⊢)
      omega))
  have H0 : Hid (Wo B g lw w w) := Wo.refl hb
  clear hnd hce hch hpf hz hb ET
  go_enter Tryz.func123, Tryz.ntmps123
  obtain ⟨-, d0, d1, d2, d3⟩ := CE.out w H0.out.2.1
  have J := hide (J0.out w H0.out)
  clear J0
  go_wp2_with fail
  refine J.out.mono ?_
  rintro e w1 ⟨rfl, h⟩
  have H1 := hide (H0.out.trans h)
  clear h J H0 d0 d1 d2 d3
  go_wp2_with fail
  go_end0
  exact ⟨rfl, by have h := H1.out; first | exact h | (simp only [List.append_assoc] at h ⊢; exact h) | (simp only [List.append_assoc, List.cons_append, List.nil_append] at h ⊢; exact h)⟩
set_option maxHeartbeats 4000000 in
theorem sm20 {t : ByteArray} {n : Int} {l : List Tree} {a : Nat} : SW (.mk 20 t n l a) := by
  intro B g lw w v hb hnd hpf hz
  obtain ⟨gn, ao, c, gl, gs, rfl, hce, hcap, hch⟩ := nd_open hnd
  have ET : prM (.mk 20 t n l a) = ([100, 105, 101] : List UInt8) := by
    rfl
  rw [ET] at hz ⊢
  have CE : Hid (∀ w', Below B w w' → Ce B w' gn 20 t n ao l.length c) := fun w' h => hce.below h
  have J0 : Hid (∀ w', Wo B g (lw) w w' → Calls Tryz.prog 57 #[.pointer (some ⟨g, 0, none⟩), .slice (some ⟨w'.heap.size, 0, none⟩) 1 1] (w'.alloc (.cells #[.string ⟨#[100, 105, 101]⟩] 9)) (Wrt B g (lw) ([100, 105, 101] : List UInt8) w')) := fun w' h => put1 ⟨#[100, 105, 101]⟩ h.1 (show Sz (lw) ([100, 105, 101] : List UInt8) from (by
      have := hz
      unfold Sz at this ⊢
      (try simp only [List.length_append] at this ⊢)
      omega))
  have H0 : Hid (Wo B g lw w w) := Wo.refl hb
  clear hnd hce hch hpf hz hb ET
  go_enter Tryz.func123, Tryz.ntmps123
  obtain ⟨-, d0, d1, d2, d3⟩ := CE.out w H0.out.2.1
  have J := hide (J0.out w H0.out)
  clear J0
  go_wp2_with fail
  refine J.out.mono ?_
  rintro e w1 ⟨rfl, h⟩
  have H1 := hide (H0.out.trans h)
  clear h J H0 d0 d1 d2 d3
  go_wp2_with fail
  go_end0
  exact ⟨rfl, by have h := H1.out; first | exact h | (simp only [List.append_assoc] at h ⊢; exact h) | (simp only [List.append_assoc, List.cons_append, List.nil_append] at h ⊢; exact h)⟩
set_option maxHeartbeats 4000000 in
theorem sm21 {t : ByteArray} {n : Int} {l : List Tree} {a : Nat} : SW (.mk 21 t n l a) := by
  intro B g lw w v hb hnd hpf hz
  obtain ⟨gn, ao, c, gl, gs, rfl, hce, hcap, hch⟩ := nd_open hnd
  have ET : prM (.mk 21 t n l a) = ([115, 116, 111, 112] : List UInt8) := by
    rfl
  rw [ET] at hz ⊢
  have CE : Hid (∀ w', Below B w w' → Ce B w' gn 21 t n ao l.length c) := fun w' h => hce.below h
  have J0 : Hid (∀ w', Wo B g (lw) w w' → Calls Tryz.prog 57 #[.pointer (some ⟨g, 0, none⟩), .slice (some ⟨w'.heap.size, 0, none⟩) 1 1] (w'.alloc (.cells #[.string ⟨#[115, 116, 111, 112]⟩] 9)) (Wrt B g (lw) ([115, 116, 111, 112] : List UInt8) w')) := fun w' h => put1 ⟨#[115, 116, 111, 112]⟩ h.1 (show Sz (lw) ([115, 116, 111, 112] : List UInt8) from (by
      have := hz
      unfold Sz at this ⊢
      (try simp only [List.length_append] at this ⊢)
      omega))
  have H0 : Hid (Wo B g lw w w) := Wo.refl hb
  clear hnd hce hch hpf hz hb ET
  go_enter Tryz.func123, Tryz.ntmps123
  obtain ⟨-, d0, d1, d2, d3⟩ := CE.out w H0.out.2.1
  have J := hide (J0.out w H0.out)
  clear J0
  go_wp2_with fail
  refine J.out.mono ?_
  rintro e w1 ⟨rfl, h⟩
  have H1 := hide (H0.out.trans h)
  clear h J H0 d0 d1 d2 d3
  go_wp2_with fail
  go_end0
  exact ⟨rfl, by have h := H1.out; first | exact h | (simp only [List.append_assoc] at h ⊢; exact h) | (simp only [List.append_assoc, List.cons_append, List.nil_append] at h ⊢; exact h)⟩
set_option maxHeartbeats 4000000 in
theorem sm12 {t : ByteArray} {n : Int} {l : List Tree} {a : Nat} (hl : 2 ≤ l.length) (e1 : EW l[1]) : SW (.mk 12 t n l a) := by
  intro B g lw w v hb hnd hpf hz
  obtain ⟨gn, ao, c, gl, gs, rfl, hce, hcap, hch⟩ := nd_open hnd
  obtain ⟨rfl, hgl⟩ := hch.2.1 (by omega)
  have ET : prM (.mk 12 t n l a) = (t.data.toList ++ ([46] : List UInt8) ++ (txT l[0]).data.toList ++ ([32, 61, 32] : List UInt8)) ++ prE l[1] := by
    rw [← getD_at (show 0 < l.length by omega), ← getD_at (show 1 < l.length by omega)]
    rfl
  rw [ET] at hz ⊢
  obtain ⟨g0, k0⟩ := ch_at hch 0 (by omega)
  obtain ⟨g1, k1⟩ := ch_at hch 1 (by omega)
  obtain ⟨x0, hn0⟩ := k0 w (Below.refl _ _)
  have hl0 : (0 : Int) < (l.length : Int) := by omega
  have hl1 : 0 < l.length := by omega
  have hl2 : (1 : Int) < (l.length : Int) := by omega
  have y0 : g0 < B ∧ w.cell? ⟨g0, 1, none⟩ = some (.string (txT l[0])) := by
    generalize l[0] = T at hn0 ⊢
    obtain ⟨op, tx, nn, ll, aa⟩ := T
    obtain ⟨g', ao', c', gl', gs', e2, hce', -, -⟩ := nd_open hn0
    injection e2 with e2
    injection e2 with e2
    injection e2 with e2 _ _
    rw [e2]
    exact ⟨hce'.1, hce'.2.2.1⟩
  obtain ⟨hg0, y0⟩ := y0
  generalize txT l[0] = t0 at *
  have CE : Hid (∀ w', Below B w w' → Ce B w' gn 12 t n (some ⟨gl, 0, none⟩) l.length c) := fun w' h => hce.below h
  have K1 : Hid (∀ w', Below B w w' → w'.cell? ⟨gl, 1, none⟩ = some (.pointer (some ⟨g1, 0, none⟩))) := fun w' h => (k1 w' h).1
  obtain ⟨hgn, d0, d1, d2, d3⟩ := hce
  have KA : Hid (∀ W, Below w.heap.size w W → ∀ o, (W.alloc o).cell? ⟨gn, 1, none⟩ = some (.string t) ∧ (W.alloc o).cell? ⟨gn, 3, none⟩ = some (.slice (some ⟨gl, 0, none⟩) l.length c) ∧ (W.alloc o).cell? ⟨gl, 0, none⟩ = some (.pointer (some ⟨g0, 0, none⟩)) ∧ (W.alloc o).cell? ⟨g0, 1, none⟩ = some (.string t0)) := fun W h o => by
    have hb2 := h.trans (show Below w.heap.size W (W.alloc o) from (below_alloc W o).mono h.size)
    exact ⟨(hb2.cell (World.block_lt_of_cell? w _ d1)).trans d1, (hb2.cell (World.block_lt_of_cell? w _ d3)).trans d3, (hb2.cell (World.block_lt_of_cell? w _ x0)).trans x0, (hb2.cell (World.block_lt_of_cell? w _ y0)).trans y0⟩
  have KB : Hid (∀ W, Wo B g (lw ++ (t.data.toList ++ ([46] : List UInt8) ++ t0.data.toList ++ ([32, 61, 32] : List UInt8))) w.drew W → W.cell? ⟨gn, 1, none⟩ = some (.string t) ∧ W.cell? ⟨gn, 3, none⟩ = some (.slice (some ⟨gl, 0, none⟩) l.length c) ∧ W.cell? ⟨gl, 0, none⟩ = some (.pointer (some ⟨g0, 0, none⟩)) ∧ W.cell? ⟨g0, 1, none⟩ = some (.string t0)) := fun W h => by
    have hb2 : Below B w W := (below_drew w).mono (by have := hb.1; omega) |>.trans h.2.1
    exact ⟨(hb2.cell (p := ⟨gn, 1, none⟩) hgn).trans d1, (hb2.cell (p := ⟨gn, 3, none⟩) hgn).trans d3, (hb2.cell (p := ⟨gl, 0, none⟩) hgl).trans x0, (hb2.cell (p := ⟨g0, 1, none⟩) hg0).trans y0⟩
  have J := hide (put4 t ⟨#[46]⟩ t0 ⟨#[32, 61, 32]⟩ (hb.later (below_drew w)) (show Sz lw (t.data.toList ++ ([46] : List UInt8) ++ t0.data.toList ++ ([32, 61, 32] : List UInt8)) from hz.left))
  have J2 : Hid (∀ w', Wo B g (lw ++ (t.data.toList ++ ([46] : List UInt8) ++ t0.data.toList ++ ([32, 61, 32] : List UInt8))) w w' → Calls Tryz.prog 149 #[.pointer (some ⟨g, 0, none⟩), .pointer (some ⟨g1, 0, none⟩)] w' (Wrt B g (lw ++ (t.data.toList ++ ([46] : List UInt8) ++ t0.data.toList ++ ([32, 61, 32] : List UInt8))) (prE l[1]) w')) := fun w' h => e1 B g _ w' _ h.1 (k1 w' h.2.1).2 (hpf.below h.2.1) hz.right
  have HD := hide (wo_later hb (below_drew w))
  clear hnd hb hpf hz hch hcap ET k0 hn0 k1 e1
  generalize prE l[1] = pe at *
  go_enter Tryz.func123, Tryz.ntmps123
  go_upto_region 8 with fail
  refine wp_region_noPanic ?_
  refine wp_region_held_drew (S := fun V => V.cell? ⟨gn, 1, none⟩ = some (.string t) ∧ V.cell? ⟨gn, 3, none⟩ = some (.slice (some ⟨gl, 0, none⟩) l.length c) ∧ V.cell? ⟨gl, 0, none⟩ = some (.pointer (some ⟨g0, 0, none⟩)) ∧ V.cell? ⟨g0, 1, none⟩ = some (.string t0)) (by kernel_rfl) (⟨d1, d3, x0, y0⟩) (fun hHeld => ?_)
  refine' wpAnyH_take (i := 0) (oi := { dst := some 44, op := Go.Op.move (Go.Operand.tmp 0), type := 80, pos := "write.go:111", after := #[], guard := none }) (v := _) rfl (by kernel_rfl) (by kernel_rfl) (by kernel_rfl) (fun _ _ _ h => h) (Or.inl ⟨by rfl, ?hyr1_0⟩) (by assumption) ?rer1_0
  case hyr1_0 => (intro W hSw; (try dsimp only at hSw); go_simp; try with_reducible rfl)
  try simp only [Act.put, List.setIfInBounds_toArray, List.set_cons_zero, List.set_cons_succ]
  refine' wpAnyH_take (i := 1) (oi := { dst := some 45, op := Go.Op.move (Go.Operand.tmp 1), type := 23, pos := "write.go:111", after := #[], guard := none }) (v := _) rfl (by kernel_rfl) (by kernel_rfl) (by kernel_rfl) (fun _ _ _ h => h) (Or.inl ⟨by rfl, ?hyr1_1⟩) (by assumption) ?rer1_1
  case hyr1_1 => (intro W hSw; (try dsimp only at hSw); go_simp; try with_reducible rfl)
  try simp only [Act.put, List.setIfInBounds_toArray, List.set_cons_zero, List.set_cons_succ]
  refine' wpAnyH_take (i := 2) (oi := { dst := some 46, op := Go.Op.nilCheck (Go.Operand.tmp 45), type := 0, pos := "write.go:111", after := #[{ on := 1, ground := Go.Ground.data }], guard := none }) (v := _) rfl (by kernel_rfl) (by kernel_rfl) (by kernel_rfl) (fun _ _ _ h => h) (Or.inl ⟨by rfl, ?hyr1_2⟩) (by assumption) ?rer1_2
  case hyr1_2 => (intro W hSw; (try dsimp only at hSw); go_simp; try with_reducible rfl)
  try simp only [Act.put, List.setIfInBounds_toArray, List.set_cons_zero, List.set_cons_succ]
  refine' wpAnyH_take (i := 3) (oi := { dst := some 47, op := Go.Op.fieldAddr 51 (Go.Operand.tmp 46) 1, type := 0, pos := "write.go:111", after := #[{ on := 2, ground := Go.Ground.data }], guard := none }) (v := _) rfl (by kernel_rfl) (by kernel_rfl) (by kernel_rfl) (fun _ _ _ h => h) (Or.inl ⟨by rfl, ?hyr1_3⟩) (by assumption) ?rer1_3
  case hyr1_3 => (intro W hSw; (try dsimp only at hSw); go_simp; try with_reducible rfl)
  try simp only [Act.put, List.setIfInBounds_toArray, List.set_cons_zero, List.set_cons_succ]
  refine' wpAnyH_take (i := 4) (oi := { dst := some 48, op := Go.Op.load 9 (Go.Operand.tmp 47), type := 9, pos := "write.go:111", after := #[{ on := 3, ground := Go.Ground.data }], guard := none }) (v := _) rfl (by kernel_rfl) (by kernel_rfl) (by kernel_rfl) (fun _ _ _ h => h) (Or.inl ⟨by rfl, ?hyr1_4⟩) (by assumption) ?rer1_4
  case hyr1_4 => (intro W hSw; (try dsimp only at hSw); go_simp; try with_reducible rfl)
  try simp only [Act.put, List.setIfInBounds_toArray, List.set_cons_zero, List.set_cons_succ]
  refine' wpAnyH_take (i := 5) (oi := { dst := some 49, op := Go.Op.move (Go.Operand.tmp 1), type := 23, pos := "write.go:111", after := #[], guard := none }) (v := _) rfl (by kernel_rfl) (by kernel_rfl) (by kernel_rfl) (fun _ _ _ h => h) (Or.inl ⟨by rfl, ?hyr1_5⟩) (by assumption) ?rer1_5
  case hyr1_5 => (intro W hSw; (try dsimp only at hSw); go_simp; try with_reducible rfl)
  try simp only [Act.put, List.setIfInBounds_toArray, List.set_cons_zero, List.set_cons_succ]
  refine' wpAnyH_take (i := 6) (oi := { dst := some 50, op := Go.Op.nilCheck (Go.Operand.tmp 49), type := 0, pos := "write.go:111", after := #[{ on := 5, ground := Go.Ground.data }], guard := none }) (v := _) rfl (by kernel_rfl) (by kernel_rfl) (by kernel_rfl) (fun _ _ _ h => h) (Or.inl ⟨by rfl, ?hyr1_6⟩) (by assumption) ?rer1_6
  case hyr1_6 => (intro W hSw; (try dsimp only at hSw); go_simp; try with_reducible rfl)
  try simp only [Act.put, List.setIfInBounds_toArray, List.set_cons_zero, List.set_cons_succ]
  refine' wpAnyH_take (i := 7) (oi := { dst := some 51, op := Go.Op.fieldAddr 51 (Go.Operand.tmp 50) 3, type := 0, pos := "write.go:111", after := #[{ on := 6, ground := Go.Ground.data }], guard := none }) (v := _) rfl (by kernel_rfl) (by kernel_rfl) (by kernel_rfl) (fun _ _ _ h => h) (Or.inl ⟨by rfl, ?hyr1_7⟩) (by assumption) ?rer1_7
  case hyr1_7 => (intro W hSw; (try dsimp only at hSw); go_simp; try with_reducible rfl)
  try simp only [Act.put, List.setIfInBounds_toArray, List.set_cons_zero, List.set_cons_succ]
  refine' wpAnyH_take (i := 8) (oi := { dst := some 52, op := Go.Op.load 49 (Go.Operand.tmp 51), type := 49, pos := "write.go:111", after := #[{ on := 7, ground := Go.Ground.data }], guard := none }) (v := _) rfl (by kernel_rfl) (by kernel_rfl) (by kernel_rfl) (fun _ _ _ h => h) (Or.inl ⟨by rfl, ?hyr1_8⟩) (by assumption) ?rer1_8
  case hyr1_8 => (intro W hSw; (try dsimp only at hSw); go_simp; try with_reducible rfl)
  try simp only [Act.put, List.setIfInBounds_toArray, List.set_cons_zero, List.set_cons_succ]
  refine' wpAnyH_take (i := 9) (oi := { dst := some 53, op := Go.Op.indexAddr 49 (Go.Operand.tmp 52) (Go.Operand.const (Go.Value.int Go.IntKind.i64 0)), type := 0, pos := "write.go:111", after := #[{ on := 8, ground := Go.Ground.data }], guard := none }) (v := _) rfl (by kernel_rfl) (by kernel_rfl) (by kernel_rfl) (fun _ _ _ h => h) (Or.inl ⟨by rfl, ?hyr1_9⟩) (by assumption) ?rer1_9
  case hyr1_9 => (intro W hSw; (try dsimp only at hSw); go_simp; try with_reducible rfl)
  try simp only [Act.put, List.setIfInBounds_toArray, List.set_cons_zero, List.set_cons_succ]
  refine' wpAnyH_take (i := 10) (oi := { dst := some 54, op := Go.Op.load 23 (Go.Operand.tmp 53), type := 23, pos := "write.go:111", after := #[{ on := 9, ground := Go.Ground.data }], guard := none }) (v := _) rfl (by kernel_rfl) (by kernel_rfl) (by kernel_rfl) (fun _ _ _ h => h) (Or.inl ⟨by rfl, ?hyr1_10⟩) (by assumption) ?rer1_10
  case hyr1_10 => (intro W hSw; (try dsimp only at hSw); go_simp; try with_reducible rfl)
  try simp only [Act.put, List.setIfInBounds_toArray, List.set_cons_zero, List.set_cons_succ]
  refine' wpAnyH_take (i := 11) (oi := { dst := some 55, op := Go.Op.nilCheck (Go.Operand.tmp 54), type := 0, pos := "write.go:111", after := #[{ on := 10, ground := Go.Ground.data }], guard := none }) (v := _) rfl (by kernel_rfl) (by kernel_rfl) (by kernel_rfl) (fun _ _ _ h => h) (Or.inl ⟨by rfl, ?hyr1_11⟩) (by assumption) ?rer1_11
  case hyr1_11 => (intro W hSw; (try dsimp only at hSw); go_simp; try with_reducible rfl)
  try simp only [Act.put, List.setIfInBounds_toArray, List.set_cons_zero, List.set_cons_succ]
  refine' wpAnyH_take (i := 12) (oi := { dst := some 56, op := Go.Op.fieldAddr 51 (Go.Operand.tmp 55) 1, type := 0, pos := "write.go:111", after := #[{ on := 11, ground := Go.Ground.data }], guard := none }) (v := _) rfl (by kernel_rfl) (by kernel_rfl) (by kernel_rfl) (fun _ _ _ h => h) (Or.inl ⟨by rfl, ?hyr1_12⟩) (by assumption) ?rer1_12
  case hyr1_12 => (intro W hSw; (try dsimp only at hSw); go_simp; try with_reducible rfl)
  try simp only [Act.put, List.setIfInBounds_toArray, List.set_cons_zero, List.set_cons_succ]
  refine' wpAnyH_take (i := 13) (oi := { dst := some 57, op := Go.Op.load 9 (Go.Operand.tmp 56), type := 9, pos := "write.go:111", after := #[{ on := 12, ground := Go.Ground.data }], guard := none }) (v := _) rfl (by kernel_rfl) (by kernel_rfl) (by kernel_rfl) (fun _ _ _ h => h) (Or.inl ⟨by rfl, ?hyr1_13⟩) (by assumption) ?rer1_13
  case hyr1_13 => (intro W hSw; (try dsimp only at hSw); go_simp; try with_reducible rfl)
  try simp only [Act.put, List.setIfInBounds_toArray, List.set_cons_zero, List.set_cons_succ]
  refine wpAnyH_ready (rs := [14]) (by kernel_rfl) (by simp) ?_
  refine AllReadyH.cons (o := { dst := some 58, op := Go.Op.buildSlice 57 4 #[(0, Go.Operand.tmp 48), (1, Go.Operand.const (Go.Value.string { data := #[46] })), (2, Go.Operand.tmp 57), (3, Go.Operand.const (Go.Value.string { data := #[32, 61, 32] }))], type := 57, pos := "write.go:111", after := #[{ on := 4, ground := Go.Ground.data }, { on := 13, ground := Go.Ground.data }], guard := none }) rfl (fun K hK => ?_) AllReadyH.nil
  clear hHeld
  go_simp
  refine hK.out _ _ (KA.out w.drew (below_drew w) (.cells #[.string t, .string ⟨#[46]⟩, .string t0, .string ⟨#[32, 61, 32]⟩] 9)) (fun hHeld => ?_)
  clear hK K
  try simp only [Act.put, List.setIfInBounds_toArray, List.set_cons_zero, List.set_cons_succ]
  refine wpAnyH_ready (rs := [15]) (by kernel_rfl) (by simp) ?_
  refine AllReadyH.cons (o := { dst := some 59, op := Go.Op.call { callee := Go.Callee.value (Go.Operand.func 57), args := #[Go.Operand.tmp 44, Go.Operand.tmp 58], argTypes := #[80, 57] }, type := 0, pos := "write.go:111", after := #[{ on := 0, ground := Go.Ground.data }, { on := 14, ground := Go.Ground.data }], guard := none }) rfl (fun K hK => ?_) AllReadyH.nil
  clear hHeld
  go_simp
  refine J.out.mono ?_
  rintro e w2 ⟨rfl, h2⟩
  have H2 := hide h2
  refine hK.out _ _ (KB.out _ h2) (fun hHeld => ?_)
  clear hK K h2
  try simp only [Act.put, List.setIfInBounds_toArray, List.set_cons_zero, List.set_cons_succ]
  refine wpAnyH_done (by kernel_rfl) ?_ _
  have HF := hide (HD.out.trans H2.out)
  have J := hide (J2.out w2 HF.out)
  clear d0 d1 d2 d3 J2
  obtain ⟨-, d0, d1, d2, d3⟩ := CE.out w2 HF.out.2.1
  have x1 := K1.out w2 HF.out.2.1
  refine NoPanic.normal ?_
  go_wp2_with fail
  refine J.out.mono ?_
  rintro e w3 ⟨rfl, h3⟩
  have HG := hide (HF.out.trans h3)
  clear h3 J d0 d1 d2 d3 x1
  go_wp2_with fail
  go_end0
  exact ⟨rfl, by have h := HG.out; first | exact h | (simp only [List.append_assoc] at h ⊢; exact h) | (simp only [List.append_assoc, List.cons_append, List.nil_append] at h ⊢; exact h)⟩
end Go.Proofs.YtmfoehaeejhlpaaGreatDoor
