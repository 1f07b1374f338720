/-
  What writes: expressions, way by way.
-/
import Derived.Test.YtmfoehaeejhlpaaGreatDoorGaAT
namespace Go.Proofs.YtmfoehaeejhlpaaGreatDoor
open Go.RowKit Yn
set_option maxRecDepth 100000
set_option maxHeartbeats 4000000 in
theorem ex31 {t : ByteArray} {n : Int} {l : List Tree} {a : Nat} : EW (.mk 31 t n l a) := by
  intro B g lw w v hb hnd hpf hz
  obtain ⟨gn, ao, c, gl, gs, rfl, hce, hcap, hch⟩ := nd_open hnd
  have ET : prE (.mk 31 t n l a) = t.data.toList := by
    rw [prE]
    rfl
  rw [ET] at hz ⊢
  have CE : Hid (∀ w', Below B w w' → Ce B w' gn 31 t n ao l.length c) := fun w' h => hce.below h
  have J0 : Hid (∀ w', Wo B g (lw) w w' → Calls Tryz.prog 57 #[.pointer (some ⟨g, 0, none⟩), .slice (some ⟨w'.heap.size, 0, none⟩) 1 1] (w'.alloc (.cells #[.string t] 9)) (Wrt B g (lw) t.data.toList w')) := fun w' h => put1 t h.1 (show Sz (lw) t.data.toList from (by
      have := hz
      unfold Sz at this ⊢
      (try simp only [List.length_append] at this ⊢)
      omega))
  have H0 : Hid (Wo B g lw w w) := Wo.refl hb
  clear hnd hce hch hpf hz hb ET
  go_enter Tryz.func149, Tryz.ntmps149
  obtain ⟨-, d0, d1, d2, d3⟩ := CE.out w H0.out.2.1
  have J := hide (J0.out w H0.out)
  clear J0
  go_wp2_with fail
  refine J.out.mono ?_
  rintro e w1 ⟨rfl, h⟩
  have H1 := hide (H0.out.trans h)
  clear h J H0 d0 d1 d2 d3
  go_wp2_with fail
  go_end0
  exact ⟨rfl, by have h := H1.out; first | exact h | (simp only [List.append_assoc] at h ⊢; exact h) | (simp only [List.append_assoc, List.cons_append, List.nil_append] at h ⊢; exact h)⟩
set_option maxHeartbeats 4000000 in
theorem ex38 {t : ByteArray} {n : Int} {l : List Tree} {a : Nat} : EW (.mk 38 t n l a) := by
  intro B g lw w v hb hnd hpf hz
  obtain ⟨gn, ao, c, gl, gs, rfl, hce, hcap, hch⟩ := nd_open hnd
  have ET : prE (.mk 38 t n l a) = t.data.toList := by
    rw [prE]
    rfl
  rw [ET] at hz ⊢
  have CE : Hid (∀ w', Below B w w' → Ce B w' gn 38 t n ao l.length c) := fun w' h => hce.below h
  have J0 : Hid (∀ w', Wo B g (lw) w w' → Calls Tryz.prog 57 #[.pointer (some ⟨g, 0, none⟩), .slice (some ⟨w'.heap.size, 0, none⟩) 1 1] (w'.alloc (.cells #[.string t] 9)) (Wrt B g (lw) t.data.toList w')) := fun w' h => put1 t h.1 (show Sz (lw) t.data.toList from (by
      have := hz
      unfold Sz at this ⊢
      (try simp only [List.length_append] at this ⊢)
      omega))
  have H0 : Hid (Wo B g lw w w) := Wo.refl hb
  clear hnd hce hch hpf hz hb ET
  go_enter Tryz.func149, Tryz.ntmps149
  obtain ⟨-, d0, d1, d2, d3⟩ := CE.out w H0.out.2.1
  have J := hide (J0.out w H0.out)
  clear J0
  go_wp2_with fail
  refine J.out.mono ?_
  rintro e w1 ⟨rfl, h⟩
  have H1 := hide (H0.out.trans h)
  clear h J H0 d0 d1 d2 d3
  go_wp2_with fail
  go_end0
  exact ⟨rfl, by have h := H1.out; first | exact h | (simp only [List.append_assoc] at h ⊢; exact h) | (simp only [List.append_assoc, List.cons_append, List.nil_append] at h ⊢; exact h)⟩
set_option maxHeartbeats 4000000 in
theorem ex37 {t : ByteArray} {n : Int} {l : List Tree} {a : Nat} : EW (.mk 37 t n l a) := by
  intro B g lw w v hb hnd hpf hz
  obtain ⟨gn, ao, c, gl, gs, rfl, hce, hcap, hch⟩ := nd_open hnd
  have ET : prE (.mk 37 t n l a) = ([104, 97, 115, 40] : List UInt8) ++ t.data.toList ++ ([41] : List UInt8) := by
    rw [prE]
    rfl
  rw [ET] at hz ⊢
  have CE : Hid (∀ w', Below B w w' → Ce B w' gn 37 t n ao l.length c) := fun w' h => hce.below h
  have J0 : Hid (∀ w', Wo B g (lw) w w' → Calls Tryz.prog 57 #[.pointer (some ⟨g, 0, none⟩), .slice (some ⟨w'.heap.size, 0, none⟩) 3 3] (w'.alloc (.cells #[.string ⟨#[104, 97, 115, 40]⟩, .string t, .string ⟨#[41]⟩] 9)) (Wrt B g (lw) (([104, 97, 115, 40] : List UInt8) ++ t.data.toList ++ ([41] : List UInt8)) w')) := fun w' h => put3 ⟨#[104, 97, 115, 40]⟩ t ⟨#[41]⟩ h.1 (show Sz (lw) (([104, 97, 115, 40] : List UInt8) ++ t.data.toList ++ ([41] : List UInt8)) from (by
      have := hz
      unfold Sz at this ⊢
      (try simp only [List.length_append] at this ⊢)
      omega))
  have H0 : Hid (Wo B g lw w w) := Wo.refl hb
  clear hnd hce hch hpf hz hb ET
  go_enter Tryz.func149, Tryz.ntmps149
  obtain ⟨-, d0, d1, d2, d3⟩ := CE.out w H0.out.2.1
  have J := hide (J0.out w H0.out)
  clear J0
  go_wp2_with fail
  refine J.out.mono ?_
  rintro e w1 ⟨rfl, h⟩
  have H1 := hide (H0.out.trans h)
  clear h J H0 d0 d1 d2 d3
  go_wp2_with fail
  go_end0
  exact ⟨rfl, by have h := H1.out; first | exact h | (simp only [List.append_assoc] at h ⊢; exact h) | (simp only [List.append_assoc, List.cons_append, List.nil_append] at h ⊢; exact h)⟩
set_option maxHeartbeats 4000000 in
theorem ex34 {t : ByteArray} {n : Int} {l : List Tree} {a : Nat} (hl : 1 ≤ l.length) (e0 : EW l[0]) : EW (.mk 34 t n l a) := by
  intro B g lw w v hb hnd hpf hz
  obtain ⟨gn, ao, c, gl, gs, rfl, hce, hcap, hch⟩ := nd_open hnd
  obtain ⟨rfl, -⟩ := hch.2.1 (by omega)
  have ET : prE (.mk 34 t n l a) = t.data.toList ++ opdB 7 (stren l[0]) (prE l[0]) := by
    rw [← prEs_at (show 0 < l.length by omega)]
    rw [← getD_at (show 0 < l.length by omega)]
    rw [prE]
    rfl
  rw [ET] at hz ⊢
  have CE : Hid (∀ w', Below B w w' → Ce B w' gn 34 t n (some ⟨gl, 0, none⟩) l.length c) := fun w' h => hce.below h
  obtain ⟨g0, k0⟩ := ch_at hch 0 (by omega)
  have K0 : Hid (∀ w', Below B w w' → w'.cell? ⟨gl, 0, none⟩ = some (.pointer (some ⟨g0, 0, none⟩))) := fun w' h => (k0 w' h).1
  have hl0 : (0 : Int) < (l.length : Int) := by omega
  have J0 : Hid (∀ w', Wo B g (lw) w w' → Calls Tryz.prog 57 #[.pointer (some ⟨g, 0, none⟩), .slice (some ⟨w'.heap.size, 0, none⟩) 1 1] (w'.alloc (.cells #[.string t] 9)) (Wrt B g (lw) t.data.toList w')) := fun w' h => put1 t h.1 (show Sz (lw) t.data.toList from (by
      have := hz
      unfold Sz at this ⊢
      (try simp only [List.length_append] at this ⊢)
      omega))
  have J1 : Hid (∀ w', Wo B g (lw ++ t.data.toList) w w' → Calls Tryz.prog 170 #[.pointer (some ⟨g, 0, none⟩), .pointer (some ⟨g0, 0, none⟩), .int .i64 7] w' (Wrt B g (lw ++ t.data.toList) (opdB 7 (stren l[0]) (prE l[0])) w')) := fun w' h => opd_w e0 7 h.1 (k0 w' h.2.1).2 (hpf.below h.2.1) (show Sz (lw ++ t.data.toList) (opdB 7 (stren l[0]) (prE l[0])) from (by
      have := hz
      unfold Sz at this ⊢
      (try simp only [List.length_append] at this ⊢)
      omega))
  have H0 : Hid (Wo B g lw w w) := Wo.refl hb
  clear hnd hce hch hpf hz hb ET k0
  go_enter Tryz.func149, Tryz.ntmps149
  obtain ⟨-, d0, d1, d2, d3⟩ := CE.out w H0.out.2.1
  have x0 := K0.out w H0.out.2.1
  have J := hide (J0.out w H0.out)
  clear J0
  go_wp2_with fail
  refine J.out.mono ?_
  rintro e w1 ⟨rfl, h⟩
  have H1 := hide (H0.out.trans h)
  clear h J H0 d0 d1 d2 d3 x0
  obtain ⟨-, d0, d1, d2, d3⟩ := CE.out w1 H1.out.2.1
  have x0 := K0.out w1 H1.out.2.1
  have J := hide (J1.out w1 H1.out)
  clear J1
  go_wp2_with fail
  refine J.out.mono ?_
  rintro e w2 ⟨rfl, h⟩
  have H2 := hide (H1.out.trans h)
  clear h J H1 d0 d1 d2 d3 x0
  go_wp2_with fail
  go_end0
  exact ⟨rfl, by have h := H2.out; first | exact h | (simp only [List.append_assoc] at h ⊢; exact h) | (simp only [List.append_assoc, List.cons_append, List.nil_append] at h ⊢; exact h)⟩
set_option maxHeartbeats 4000000 in
theorem ex35 {t : ByteArray} {n : Int} {l : List Tree} {a : Nat} (hl : 3 ≤ l.length) (e0 : EW l[0]) (e1 : EW l[1]) (e2 : EW l[2]) : EW (.mk 35 t n l a) := by
  intro B g lw w v hb hnd hpf hz
  obtain ⟨gn, ao, c, gl, gs, rfl, hce, hcap, hch⟩ := nd_open hnd
  obtain ⟨rfl, -⟩ := hch.2.1 (by omega)
  have ET : prE (.mk 35 t n l a) = opdB 1 (stren l[0]) (prE l[0]) ++ ([32, 63, 32] : List UInt8) ++ prE l[1] ++ ([32, 58, 32] : List UInt8) ++ prE l[2] := by
    rw [← prEs_at (show 0 < l.length by omega), ← prEs_at (show 1 < l.length by omega), ← prEs_at (show 2 < l.length by omega)]
    rw [← getD_at (show 0 < l.length by omega)]
    rw [prE]
    rfl
  rw [ET] at hz ⊢
  have CE : Hid (∀ w', Below B w w' → Ce B w' gn 35 t n (some ⟨gl, 0, none⟩) l.length c) := fun w' h => hce.below h
  obtain ⟨g0, k0⟩ := ch_at hch 0 (by omega)
  have K0 : Hid (∀ w', Below B w w' → w'.cell? ⟨gl, 0, none⟩ = some (.pointer (some ⟨g0, 0, none⟩))) := fun w' h => (k0 w' h).1
  have hl0 : (0 : Int) < (l.length : Int) := by omega
  obtain ⟨g1, k1⟩ := ch_at hch 1 (by omega)
  have K1 : Hid (∀ w', Below B w w' → w'.cell? ⟨gl, 1, none⟩ = some (.pointer (some ⟨g1, 0, none⟩))) := fun w' h => (k1 w' h).1
  have hl1 : (1 : Int) < (l.length : Int) := by omega
  obtain ⟨g2, k2⟩ := ch_at hch 2 (by omega)
  have K2 : Hid (∀ w', Below B w w' → w'.cell? ⟨gl, 2, none⟩ = some (.pointer (some ⟨g2, 0, none⟩))) := fun w' h => (k2 w' h).1
  have hl2 : (2 : Int) < (l.length : Int) := by omega
  have J0 : Hid (∀ w', Wo B g (lw) w w' → Calls Tryz.prog 170 #[.pointer (some ⟨g, 0, none⟩), .pointer (some ⟨g0, 0, none⟩), .int .i64 1] w' (Wrt B g (lw) (opdB 1 (stren l[0]) (prE l[0])) w')) := fun w' h => opd_w e0 1 h.1 (k0 w' h.2.1).2 (hpf.below h.2.1) (show Sz (lw) (opdB 1 (stren l[0]) (prE l[0])) from (by
      have := hz
      unfold Sz at this ⊢
      (try simp only [List.length_append] at this ⊢)
      omega))
  have J1 : Hid (∀ w', Wo B g (lw ++ opdB 1 (stren l[0]) (prE l[0])) w w' → Calls Tryz.prog 57 #[.pointer (some ⟨g, 0, none⟩), .slice (some ⟨w'.heap.size, 0, none⟩) 1 1] (w'.alloc (.cells #[.string ⟨#[32, 63, 32]⟩] 9)) (Wrt B g (lw ++ opdB 1 (stren l[0]) (prE l[0])) ([32, 63, 32] : List UInt8) w')) := fun w' h => put1 ⟨#[32, 63, 32]⟩ h.1 (show Sz (lw ++ opdB 1 (stren l[0]) (prE l[0])) ([32, 63, 32] : List UInt8) from (by
      have := hz
      unfold Sz at this ⊢
      (try simp only [List.length_append] at this ⊢)
      omega))
  have J2 : Hid (∀ w', Wo B g (lw ++ opdB 1 (stren l[0]) (prE l[0]) ++ ([32, 63, 32] : List UInt8)) w w' → Calls Tryz.prog 149 #[.pointer (some ⟨g, 0, none⟩), .pointer (some ⟨g1, 0, none⟩)] w' (Wrt B g (lw ++ opdB 1 (stren l[0]) (prE l[0]) ++ ([32, 63, 32] : List UInt8)) (prE l[1]) w')) := fun w' h => e1 B g _ w' _ h.1 (k1 w' h.2.1).2 (hpf.below h.2.1) (show Sz (lw ++ opdB 1 (stren l[0]) (prE l[0]) ++ ([32, 63, 32] : List UInt8)) (prE l[1]) from (by
      have := hz
      unfold Sz at this ⊢
      (try simp only [List.length_append] at this ⊢)
      omega))
  have J3 : Hid (∀ w', Wo B g (lw ++ opdB 1 (stren l[0]) (prE l[0]) ++ ([32, 63, 32] : List UInt8) ++ prE l[1]) w w' → Calls Tryz.prog 57 #[.pointer (some ⟨g, 0, none⟩), .slice (some ⟨w'.heap.size, 0, none⟩) 1 1] (w'.alloc (.cells #[.string ⟨#[32, 58, 32]⟩] 9)) (Wrt B g (lw ++ opdB 1 (stren l[0]) (prE l[0]) ++ ([32, 63, 32] : List UInt8) ++ prE l[1]) ([32, 58, 32] : List UInt8) w')) := fun w' h => put1 ⟨#[32, 58, 32]⟩ h.1 (show Sz (lw ++ opdB 1 (stren l[0]) (prE l[0]) ++ ([32, 63, 32] : List UInt8) ++ prE l[1]) ([32, 58, 32] : List UInt8) from (by
      have := hz
      unfold Sz at this ⊢
      (try simp only [List.length_append] at this ⊢)
      omega))
  have J4 : Hid (∀ w', Wo B g (lw ++ opdB 1 (stren l[0]) (prE l[0]) ++ ([32, 63, 32] : List UInt8) ++ prE l[1] ++ ([32, 58, 32] : List UInt8)) w w' → Calls Tryz.prog 149 #[.pointer (some ⟨g, 0, none⟩), .pointer (some ⟨g2, 0, none⟩)] w' (Wrt B g (lw ++ opdB 1 (stren l[0]) (prE l[0]) ++ ([32, 63, 32] : List UInt8) ++ prE l[1] ++ ([32, 58, 32] : List UInt8)) (prE l[2]) w')) := fun w' h => e2 B g _ w' _ h.1 (k2 w' h.2.1).2 (hpf.below h.2.1) (show Sz (lw ++ opdB 1 (stren l[0]) (prE l[0]) ++ ([32, 63, 32] : List UInt8) ++ prE l[1] ++ ([32, 58, 32] : List UInt8)) (prE l[2]) from (by
      have := hz
      unfold Sz at this ⊢
      (try simp only [List.length_append] at this ⊢)
      omega))
  have H0 : Hid (Wo B g lw w w) := Wo.refl hb
  clear hnd hce hch hpf hz hb ET k0 k1 k2
  go_enter Tryz.func149, Tryz.ntmps149
  obtain ⟨-, d0, d1, d2, d3⟩ := CE.out w H0.out.2.1
  have x0 := K0.out w H0.out.2.1
  have x1 := K1.out w H0.out.2.1
  have x2 := K2.out w H0.out.2.1
  have J := hide (J0.out w H0.out)
  clear J0
  go_wp2_with fail
  refine J.out.mono ?_
  rintro e w1 ⟨rfl, h⟩
  have H1 := hide (H0.out.trans h)
  clear h J H0 d0 d1 d2 d3 x0 x1 x2
  obtain ⟨-, d0, d1, d2, d3⟩ := CE.out w1 H1.out.2.1
  have x0 := K0.out w1 H1.out.2.1
  have x1 := K1.out w1 H1.out.2.1
  have x2 := K2.out w1 H1.out.2.1
  have J := hide (J1.out w1 H1.out)
  clear J1
  go_wp2_with fail
  refine J.out.mono ?_
  rintro e w2 ⟨rfl, h⟩
  have H2 := hide (H1.out.trans h)
  clear h J H1 d0 d1 d2 d3 x0 x1 x2
  obtain ⟨-, d0, d1, d2, d3⟩ := CE.out w2 H2.out.2.1
  have x0 := K0.out w2 H2.out.2.1
  have x1 := K1.out w2 H2.out.2.1
  have x2 := K2.out w2 H2.out.2.1
  have J := hide (J2.out w2 H2.out)
  clear J2
  go_wp2_with fail
  refine J.out.mono ?_
  rintro e w3 ⟨rfl, h⟩
  have H3 := hide (H2.out.trans h)
  clear h J H2 d0 d1 d2 d3 x0 x1 x2
  obtain ⟨-, d0, d1, d2, d3⟩ := CE.out w3 H3.out.2.1
  have x0 := K0.out w3 H3.out.2.1
  have x1 := K1.out w3 H3.out.2.1
  have x2 := K2.out w3 H3.out.2.1
  have J := hide (J3.out w3 H3.out)
  clear J3
  go_wp2_with fail
  refine J.out.mono ?_
  rintro e w4 ⟨rfl, h⟩
  have H4 := hide (H3.out.trans h)
  clear h J H3 d0 d1 d2 d3 x0 x1 x2
  obtain ⟨-, d0, d1, d2, d3⟩ := CE.out w4 H4.out.2.1
  have x0 := K0.out w4 H4.out.2.1
  have x1 := K1.out w4 H4.out.2.1
  have x2 := K2.out w4 H4.out.2.1
  have J := hide (J4.out w4 H4.out)
  clear J4
  go_wp2_with fail
  refine J.out.mono ?_
  rintro e w5 ⟨rfl, h⟩
  have H5 := hide (H4.out.trans h)
  clear h J H4 d0 d1 d2 d3 x0 x1 x2
  go_wp2_with fail
  go_end0
  exact ⟨rfl, by have h := H5.out; first | exact h | (simp only [List.append_assoc] at h ⊢; exact h) | (simp only [List.append_assoc, List.cons_append, List.nil_append] at h ⊢; exact h)⟩
set_option maxHeartbeats 4000000 in
theorem ex33 {t : ByteArray} {n : Int} {l : List Tree} {a : Nat} (hl : 2 ≤ l.length) (e0 : EW l[0]) (e1 : EW l[1]) : EW (.mk 33 t n l a) := by
  intro B g lw w v hb hnd hpf hz
  obtain ⟨gn, ao, c, gl, gs, rfl, hce, hcap, hch⟩ := nd_open hnd
  obtain ⟨rfl, -⟩ := hch.2.1 (by omega)
  have ET : prE (.mk 33 t n l a) = opdB (binding t) (stren l[0]) (prE l[0]) ++ (([32] : List UInt8) ++ t.data.toList ++ ([32] : List UInt8)) ++ opdB (binding t + 1) (stren l[1]) (prE l[1]) := by
    rw [← prEs_at (show 0 < l.length by omega), ← prEs_at (show 1 < l.length by omega)]
    rw [← getD_at (show 0 < l.length by omega), ← getD_at (show 1 < l.length by omega)]
    rw [prE]
    rfl
  rw [ET] at hz ⊢
  have CE : Hid (∀ w', Below B w w' → Ce B w' gn 33 t n (some ⟨gl, 0, none⟩) l.length c) := fun w' h => hce.below h
  obtain ⟨g0, k0⟩ := ch_at hch 0 (by omega)
  have K0 : Hid (∀ w', Below B w w' → w'.cell? ⟨gl, 0, none⟩ = some (.pointer (some ⟨g0, 0, none⟩))) := fun w' h => (k0 w' h).1
  have hl0 : (0 : Int) < (l.length : Int) := by omega
  obtain ⟨g1, k1⟩ := ch_at hch 1 (by omega)
  have K1 : Hid (∀ w', Below B w w' → w'.cell? ⟨gl, 1, none⟩ = some (.pointer (some ⟨g1, 0, none⟩))) := fun w' h => (k1 w' h).1
  have hl1 : (1 : Int) < (l.length : Int) := by omega
  have hbl := bind_le t
  have hbc : ((binding t + 1 : Nat) : Int) = (binding t : Int) + 1 := by omega
  have J0 : Hid (∀ w', Wo B g (lw) w w' → Calls Tryz.prog 170 #[.pointer (some ⟨g, 0, none⟩), .pointer (some ⟨g0, 0, none⟩), .int .i64 (binding t : Int)] w' (Wrt B g (lw) (opdB (binding t) (stren l[0]) (prE l[0])) w')) := fun w' h => opd_w e0 (binding t) h.1 (k0 w' h.2.1).2 (hpf.below h.2.1) (show Sz (lw) (opdB (binding t) (stren l[0]) (prE l[0])) from (by
      have := hz
      unfold Sz at this ⊢
      (try simp only [List.length_append] at this ⊢)
      omega))
  have J1 : Hid (∀ w', Wo B g (lw ++ opdB (binding t) (stren l[0]) (prE l[0])) w w' → Calls Tryz.prog 57 #[.pointer (some ⟨g, 0, none⟩), .slice (some ⟨w'.heap.size, 0, none⟩) 3 3] (w'.alloc (.cells #[.string ⟨#[32]⟩, .string t, .string ⟨#[32]⟩] 9)) (Wrt B g (lw ++ opdB (binding t) (stren l[0]) (prE l[0])) (([32] : List UInt8) ++ t.data.toList ++ ([32] : List UInt8)) w')) := fun w' h => put3 ⟨#[32]⟩ t ⟨#[32]⟩ h.1 (show Sz (lw ++ opdB (binding t) (stren l[0]) (prE l[0])) (([32] : List UInt8) ++ t.data.toList ++ ([32] : List UInt8)) from (by
      have := hz
      unfold Sz at this ⊢
      (try simp only [List.length_append] at this ⊢)
      omega))
  have J2 : Hid (∀ w', Wo B g (lw ++ opdB (binding t) (stren l[0]) (prE l[0]) ++ (([32] : List UInt8) ++ t.data.toList ++ ([32] : List UInt8))) w w' → Calls Tryz.prog 170 #[.pointer (some ⟨g, 0, none⟩), .pointer (some ⟨g1, 0, none⟩), .int .i64 ((binding t : Int) + 1)] w' (Wrt B g (lw ++ opdB (binding t) (stren l[0]) (prE l[0]) ++ (([32] : List UInt8) ++ t.data.toList ++ ([32] : List UInt8))) (opdB (binding t + 1) (stren l[1]) (prE l[1])) w')) := fun w' h => hbc ▸ opd_w e1 (binding t + 1) h.1 (k1 w' h.2.1).2 (hpf.below h.2.1) (show Sz (lw ++ opdB (binding t) (stren l[0]) (prE l[0]) ++ (([32] : List UInt8) ++ t.data.toList ++ ([32] : List UInt8))) (opdB (binding t + 1) (stren l[1]) (prE l[1])) from (by
      have := hz
      unfold Sz at this ⊢
      (try simp only [List.length_append] at this ⊢)
      omega))
  have H0 : Hid (Wo B g lw w w) := Wo.refl hb
  clear hnd hce hch hpf hz hb ET k0 k1
  go_enter Tryz.func149, Tryz.ntmps149
  obtain ⟨-, d0, d1, d2, d3⟩ := CE.out w H0.out.2.1
  have x0 := K0.out w H0.out.2.1
  have x1 := K1.out w H0.out.2.1
  have J := hide (J0.out w H0.out)
  clear J0
  have JB := hide (binding_any t w)
  go_wp2_with fail
  refine JB.out.mono ?_
  rintro e wq ⟨rfl, eq⟩
  subst eq
  clear JB
  go_wp2_with fail
  refine J.out.mono ?_
  rintro e w1 ⟨rfl, h⟩
  have H1 := hide (H0.out.trans h)
  clear h J H0 d0 d1 d2 d3 x0 x1
  obtain ⟨-, d0, d1, d2, d3⟩ := CE.out w1 H1.out.2.1
  have x0 := K0.out w1 H1.out.2.1
  have x1 := K1.out w1 H1.out.2.1
  have J := hide (J1.out w1 H1.out)
  clear J1
  go_wp2_with fail
  refine J.out.mono ?_
  rintro e w2 ⟨rfl, h⟩
  have H2 := hide (H1.out.trans h)
  clear h J H1 d0 d1 d2 d3 x0 x1
  obtain ⟨-, d0, d1, d2, d3⟩ := CE.out w2 H2.out.2.1
  have x0 := K0.out w2 H2.out.2.1
  have x1 := K1.out w2 H2.out.2.1
  have J := hide (J2.out w2 H2.out)
  clear J2
  go_wp2_with fail
  refine J.out.mono ?_
  rintro e w3 ⟨rfl, h⟩
  have H3 := hide (H2.out.trans h)
  clear h J H2 d0 d1 d2 d3 x0 x1
  go_wp2_with fail
  go_end0
  exact ⟨rfl, by have h := H3.out; first | exact h | (simp only [List.append_assoc] at h ⊢; exact h) | (simp only [List.append_assoc, List.cons_append, List.nil_append] at h ⊢; exact h)⟩
set_option maxHeartbeats 4000000 in
theorem ex_none {op : Nat} {t : ByteArray} {n : Int} {l : List Tree} {a : Nat} (h : op < 30 ∨ 38 < op) : EW (.mk op t n l a) := by
  intro B g lw w v hb hnd hpf hz
  obtain ⟨gn, ao, c, gl, gs, rfl, ⟨-, d0, d1, d2, d3⟩, hcap, hch⟩ := nd_open hnd
  have ET : prE (.mk op t n l a) = [] := by
    rw [prE, exB]
    rw [if_neg (by omega), if_neg (by omega), if_neg (by omega), if_neg (by omega), if_neg (by omega), if_neg (by omega), if_neg (by omega), if_neg (by omega)]
  have HF : Hid (Wrt B g lw [] w (.returned (.tuple #[])) w) := ⟨rfl, by rw [List.append_nil]; exact Wo.refl hb⟩
  rw [ET]
  have k1 : ¬ (op : Int) = 30 := by omega
  have k2 : ¬ (op : Int) = 31 := by omega
  have k3 : ¬ (op : Int) = 32 := by omega
  have k4 : ¬ (op : Int) = 33 := by omega
  have k5 : ¬ (op : Int) = 34 := by omega
  have k6 : ¬ (op : Int) = 35 := by omega
  have k7 : ¬ (op : Int) = 36 := by omega
  have k8 : ¬ (op : Int) = 37 := by omega
  have k9 : ¬ (op : Int) = 38 := by omega
  clear hnd hb hpf hz hch hcap ET h
  go_enter Tryz.func149, Tryz.ntmps149
  go_wp2_with fail
  go_end0
  exact HF.out
set_option maxHeartbeats 4000000 in
theorem ex30 {t : ByteArray} {n : Int} {l : List Tree} {a : Nat} (h0 : -9223372036854775808 ≤ n) (h1 : n ≤ 9223372036854775807) : EW (.mk 30 t n l a) := by
  intro B g lw w v hb hnd hpf hz
  obtain ⟨gn, ao, c, gl, gs, rfl, ⟨-, d0, d1, d2, d3⟩, hcap, hch⟩ := nd_open hnd
  have ET : prE (.mk 30 t n l a) = Lib.itoa n := by
    rw [prE, exB]
    simp
  rw [ET] at hz ⊢
  have J0 := hide (hpf w (Below.refl _ _) n h0 h1)
  have J1 : Hid (∀ w', Below w.heap.size w w' → Calls Tryz.prog 57 #[.pointer (some ⟨g, 0, none⟩), .slice (some ⟨w'.heap.size, 0, none⟩) 1 1] (w'.alloc (.cells #[.string ⟨(Lib.itoa n).toArray⟩] 9)) (Wrt B g lw (Lib.itoa n) w)) := fun w' h => by
    refine (put1 ⟨(Lib.itoa n).toArray⟩ (hb.later h) (show Sz lw (Lib.itoa n) from hz)).mono ?_
    rintro e w2 ⟨rfl, h2⟩
    exact ⟨rfl, (wo_later hb h).trans h2⟩
  clear hnd hb hpf hz hch hcap ET
  go_enter Tryz.func149, Tryz.ntmps149
  go_wp2_with fail
  refine J0.out.mono ?_
  rintro e w2 ⟨rfl, h2⟩
  have J := hide (J1.out w2 h2)
  clear h2 J0 J1
  go_wp2_with fail
  refine J.out.mono ?_
  rintro e w3 ⟨rfl, h3⟩
  have H := hide h3
  clear h3 J
  go_wp2_with fail
  go_end0
  exact ⟨rfl, H.out⟩
end Go.Proofs.YtmfoehaeejhlpaaGreatDoor
