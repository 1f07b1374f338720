import Derived.Test.YtmfoehaeejhlpaaGreatDoorGaBE
/-
  What writes: blocks, all statements.
-/
namespace Go.Proofs.YtmfoehaeejhlpaaGreatDoor
open Go.RowKit Yn
set_option maxRecDepth 100000
theorem rep_nine : ∀ c : Nat, Lib.repeatL [9] c = List.replicate c 9
  | 0 => rfl
  | c + 1 => by rw [Lib.repeatL, rep_nine c]; rfl
theorem rep_any (k : Nat) (hk : k ≤ 2000000) (w : World) : Calls Tryz.prog 88 #[.string ⟨#[9]⟩, .int .i64 (k : Int)] w fun e w' => e = .returned (.string ⟨(tabB k).toArray⟩) ∧ Below w.heap.size w w' := by
  by_cases h0 : k = 0
  · subst h0
    refine (Tryz.strings_Repeat_zero ⟨#[9]⟩ w).mono ?_
    rintro e w' ⟨rfl, rfl⟩
    exact ⟨rfl, Below.refl _ _⟩
  · by_cases h1 : k = 1
    · subst h1
      refine (Tryz.strings_Repeat_one ⟨#[9]⟩ w).mono ?_
      rintro e w' ⟨rfl, rfl⟩
      exact ⟨rfl, Below.refl _ _⟩
    · refine (Tryz.strings_Repeat_main ⟨#[9]⟩ k w (by omega) (by omega) (by show 1 * k ≤ _; omega) (by decide)).mono ?_
      rintro e w' ⟨rfl, h⟩
      refine ⟨?_, h⟩
      show Ending.returned (.string ⟨(Lib.repeatL [9] k).toArray⟩) = _
      rw [rep_nine]
      rfl
/-- Tabs, and a text of its own behind them. -/
theorem tab1 {B g k : Nat} {l : List UInt8} {w w' : World} (h : Bt B g l w) (hb : Below w.heap.size w w') (hz : Sz l (tabB k)) : Calls Tryz.prog 57 #[.pointer (some ⟨g, 0, none⟩), .slice (some ⟨w'.heap.size, 0, none⟩) 1 1] (w'.alloc (.cells #[.string ⟨(tabB k).toArray⟩] 9)) (Wrt B g l (tabB k) w) := by
  refine (put1 ⟨(tabB k).toArray⟩ (h.later hb) (show Sz l (tabB k) from hz)).mono ?_
  rintro e w2 ⟨rfl, h2⟩
  exact ⟨rfl, (wo_later h hb).trans h2⟩
theorem tab2 {B g k : Nat} {l : List UInt8} {w w' : World} (h : Bt B g l w) (hb : Below w.heap.size w w') (hz : Sz l (tabB k ++ [125])) : Calls Tryz.prog 57 #[.pointer (some ⟨g, 0, none⟩), .slice (some ⟨w'.heap.size, 0, none⟩) 2 2] (w'.alloc (.cells #[.string ⟨(tabB k).toArray⟩, .string ⟨#[125]⟩] 9)) (Wrt B g l (tabB k ++ [125]) w) := by
  refine (put2 ⟨(tabB k).toArray⟩ ⟨#[125]⟩ (h.later hb) (show Sz l (tabB k ++ [125]) from hz)).mono ?_
  rintro e w2 ⟨rfl, h2⟩
  exact ⟨rfl, (wo_later h hb).trans h2⟩
theorem flat_take {xs : List (List UInt8)} {i : Nat} (hi : i < xs.length) : (xs.take (i + 1)).flatten = (xs.take i).flatten ++ xs[i] := by
  rw [List.take_succ_eq_append_getElem hi, List.flatten_append]
  simp
theorem flat_le (xs : List (List UInt8)) (i : Nat) : ((xs.take i).flatten).length ≤ (xs.flatten).length := by
  have : xs.flatten = (xs.take i).flatten ++ (xs.drop i).flatten := by rw [← List.flatten_append, List.take_append_drop]
  rw [this, List.length_append]
  omega
set_option maxHeartbeats 4000000 in
theorem block_w {f k op : Nat} {t : ByteArray} {n : Int} {ts : List Tree} {a : Nat} (hv : ∀ i (h : i < ts.length), StW f ts[i] (k + 1)) (hn : ts.length ≤ 1048576) (hk : k ≤ 1000000) : BlkW (f + 1) (.mk op t n ts a) k := by
  intro B g lw w v hb hnd hpf hz
  obtain ⟨gn, ao, c, gl, gs, rfl, hce, hcap, hc⟩ := nd_open hnd
  obtain ⟨xs, hxs⟩ : ∃ xs : List (List UInt8), xs = ts.map fun s => tabB (k + 1) ++ prSt f s (k + 1) ++ [10] := ⟨_, rfl⟩
  have ET : prBk (f + 1) (.mk op t n ts a) k = ([32, 123, 10] : List UInt8) ++ xs.flatten ++ (tabB k ++ ([125] : List UInt8)) := by rw [hxs, prBk]; rfl
  rw [ET] at hz ⊢
  obtain ⟨m, hnn⟩ : ∃ m, m = ts.length := ⟨_, rfl⟩
  obtain ⟨l, hlw⟩ : ∃ l : List UInt8, l = lw ++ ([32, 123, 10] : List UInt8) := ⟨_, rfl⟩
  have HXN : Hid (xs.length = m) := by unfold Hid; rw [hxs, hnn]; simp
  have HX : Hid (∀ i (h : i < ts.length) (h' : i < xs.length), xs[i] = tabB (k + 1) ++ prSt f ts[i] (k + 1) ++ ([10] : List UInt8)) := fun i h h' => by simp [hxs]
  have J0 := hide (put1 ⟨#[32, 123, 10]⟩ hb (show Sz lw ([32, 123, 10] : List UInt8) from hz.left.left))
  have HZ : Hid (Sz l xs.flatten) := by
    unfold Hid
    rw [hlw]
    exact hz.left.right
  have HZ9 : Hid (Sz (l ++ xs.flatten) (tabB k ++ ([125] : List UInt8))) := by
    unfold Hid
    rw [hlw]
    have := hz
    unfold Sz at this ⊢
    simp only [List.length_append] at this ⊢
    omega
  have CE : Hid (∀ w', Below B w w' → Ce B w' gn op t n ao ts.length c) := fun w' h => hce.below h
  have HC := hide hc
  have HV := hide hv
  have HP := hide hpf
  have HNN := hide hnn
  have HLW : Hid (l ++ xs.flatten ++ (tabB k ++ ([125] : List UInt8)) = lw ++ (([32, 123, 10] : List UInt8) ++ xs.flatten ++ (tabB k ++ ([125] : List UInt8)))) := by
    unfold Hid
    rw [hlw]
    simp only [List.append_assoc]
  have kc : ((k + 1 : Nat) : Int) = (k : Int) + 1 := by omega
  obtain ⟨-, d0, d1, d2, d3⟩ := hce
  rw [← hnn] at hn d3 CE
  clear hb hnd hpf hz hc hcap hv hnn hxs ET
  go_enter Tryz.func59, Tryz.ntmps59
  go_wp2_with fail
  refine J0.out.mono ?_
  rintro e w1 ⟨rfl, h1⟩
  have h1 : Wo B g (lw ++ ([32, 123, 10] : List UInt8)) w w1 := h1
  rw [← hlw] at h1
  have H1 : Hid (Wo B g (l ++ (xs.take 0).flatten) w w1) := by
    have e : l ++ (xs.take 0).flatten = l := by simp
    unfold Hid
    rw [e]
    exact h1
  clear h1 J0 d0 d1 d2 d3 hlw
  obtain ⟨-, d0, d1, d2, d3⟩ := CE.out w1 H1.out.2.1
  go_wp2_with fail
  go_loopw [16] (fun v8 wr => ∃ i : Nat, v8 = .int .i64 (i : Int) ∧ i ≤ m ∧ Hid (Wo B g (l ++ (xs.take i).flatten) w wr)) (fun v8 _ => m - (intOf v8).toNat)
  case atStart => exact ⟨0, rfl, by omega, H1.out⟩
  case round =>
    obtain ⟨i, rfl, hi1, hw⟩ := hrel
    by_cases hi2 : i < m
    · have hit : i < ts.length := by rw [← HNN.out]; exact hi2
      have hix : i < xs.length := by rw [HXN.out]; exact hi2
      have hig : i < gs.length := by rw [HC.out.1]; exact hit
      obtain ⟨rfl, -⟩ := HC.out.2.1 (by omega)
      obtain ⟨c0, -⟩ := (HC.out.below hw.out.2.1).2.2 i hit hig
      have zz : Sz (l ++ (xs.take i).flatten) xs[i] := by
        have h1 := flat_le xs (i + 1)
        rw [flat_take hix, List.length_append] at h1
        have h2 := HZ.out
        unfold Sz at h2 ⊢
        rw [List.length_append]
        omega
      have ex := HX.out i hit hix
      have CT := flat_take hix
      rw [ex] at zz CT
      have J1 := hide (rep_any (k + 1) (by omega) wr)
      have i9 : (i : Int) < (m : Int) := by omega
      have KN : Hid (∀ w', Below B w w' → Nd (fun q => q < B) w' ts[i] (.pointer (some ⟨gs[i], 0, none⟩))) := fun w' h => ((HC.out.below h).2.2 i hit hig).2
      have J2 : Hid (∀ w', Below wr.heap.size wr w' → Calls Tryz.prog 57 #[.pointer (some ⟨g, 0, none⟩), .slice (some ⟨w'.heap.size, 0, none⟩) 1 1] (w'.alloc (.cells #[.string ⟨(tabB (k + 1)).toArray⟩] 9)) (Wrt B g (l ++ (xs.take i).flatten) (tabB (k + 1)) wr)) := fun w' h => tab1 hw.out.1 h zz.left.left
      have J3 : Hid (∀ w', Wo B g (l ++ (xs.take i).flatten ++ tabB (k + 1)) w w' → Calls Tryz.prog 89 #[.pointer (some ⟨g, 0, none⟩), .pointer (some ⟨gs[i], 0, none⟩), .int .i64 ((k : Int) + 1)] w' (Wrt B g (l ++ (xs.take i).flatten ++ tabB (k + 1)) (prSt f ts[i] (k + 1)) w')) := fun w' h => by
        have := HV.out i hit B g _ w' _ h.1 (KN.out w' h.2.1) (HP.out.below h.2.1) zz.left.right
        rw [kc] at this
        exact this
      have J4 : Hid (∀ w', Wo B g (l ++ (xs.take i).flatten ++ tabB (k + 1) ++ prSt f ts[i] (k + 1)) w w' → Calls Tryz.prog 57 #[.pointer (some ⟨g, 0, none⟩), .slice (some ⟨w'.heap.size, 0, none⟩) 1 1] (w'.alloc (.cells #[.string ⟨#[10]⟩] 9)) (Wrt B g (l ++ (xs.take i).flatten ++ tabB (k + 1) ++ prSt f ts[i] (k + 1)) [10] w')) := fun w' h => put1 ⟨#[10]⟩ h.1 (show Sz _ ([10] : List UInt8) from by
        have := zz
        unfold Sz at this ⊢
        simp only [List.length_append] at this ⊢
        omega)
      have E1 : Hid (l ++ (xs.take i).flatten ++ tabB (k + 1) ++ prSt f ts[i] (k + 1) ++ ([10] : List UInt8) = l ++ (xs.take (i + 1)).flatten) := by
        unfold Hid
        rw [CT]
        simp only [List.append_assoc]
      generalize prSt f ts[i] (k + 1) = ps at *
      generalize gs[i] = gi at *
      generalize tabB (k + 1) = tb at *
      rw [kc] at J1
      clear zz hix hit hig ex CT KN kc
      go_wp2_with fail
      refine J1.out.mono ?_
      rintro e w2 ⟨rfl, h2⟩
      have J := hide (J2.out w2 h2)
      clear h2 J1 J2 c0
      go_wp2_with fail
      refine J.out.mono ?_
      rintro e w3 ⟨rfl, h3⟩
      have H3 := hide (hw.out.trans h3)
      clear h3 J
      have J := hide (J3.out w3 H3.out)
      clear J3
      go_wp2_with fail
      refine J.out.mono ?_
      rintro e w4 ⟨rfl, h4⟩
      have H4 := hide (H3.out.trans h4)
      clear h4 J H3
      have J := hide (J4.out w4 H4.out)
      clear J4
      go_wp2_with fail
      refine J.out.mono ?_
      rintro e w5 ⟨rfl, h5⟩
      have H5 : Hid (Wo B g (l ++ (xs.take (i + 1)).flatten) w w5) := by
        have := H4.out.trans h5
        rw [E1.out] at this
        exact this
      clear h5 J H4
      go_wp2_with fail
      exact ⟨⟨i + 1, by go_num, by omega, H5.out⟩, by simp [intOf]; omega⟩
    · obtain rfl : m = i := by omega
      have H9 : Hid (Wo B g (l ++ xs.flatten) w wr) := by
        have h := hw.out
        rw [← HXN.out, List.take_length] at h
        exact h
      have J1 := hide (rep_any k (by omega) wr)
      have J2 : Hid (∀ w', Below wr.heap.size wr w' → Calls Tryz.prog 57 #[.pointer (some ⟨g, 0, none⟩), .slice (some ⟨w'.heap.size, 0, none⟩) 2 2] (w'.alloc (.cells #[.string ⟨(tabB k).toArray⟩, .string ⟨#[125]⟩] 9)) (Wrt B g (l ++ xs.flatten) (tabB k ++ ([125] : List UInt8)) wr)) := fun w' h => tab2 H9.out.1 h HZ9.out
      clear kc
      go_wp2_with fail
      refine J1.out.mono ?_
      rintro e w2 ⟨rfl, h2⟩
      have J := hide (J2.out w2 h2)
      clear h2 J1 J2
      go_wp2_with fail
      refine J.out.mono ?_
      rintro e w3 ⟨rfl, h3⟩
      have HF : Hid (Wo B g (lw ++ (([32, 123, 10] : List UInt8) ++ xs.flatten ++ (tabB k ++ ([125] : List UInt8)))) w w3) := by
        have := H9.out.trans h3
        rw [HLW.out] at this
        exact this
      clear h3 J
      go_wp2_with fail
      go_end0
      exact ⟨rfl, by have h := HF.out; first | exact h | (simp only [List.append_assoc] at h ⊢; exact h) | (simp only [List.append_assoc, List.cons_append, List.nil_append] at h ⊢; exact h)⟩
set_option maxHeartbeats 4000000 in
theorem st13 {f k : Nat} {t : ByteArray} {n : Int} {l : List Tree} {a : Nat} (q : BrW f (.mk 13 t n l a) k) : StW (f + 1) (.mk 13 t n l a) k := by
  intro B g lw w v hb hnd hpf hz
  obtain ⟨gn, ao, c, gl, gs, rfl, hce, hcap, hch⟩ := nd_open hnd
  have ET : prSt (f + 1) (.mk 13 t n l a) k = prBr f (.mk 13 t n l a) k := by
    rw [prSt]
    rfl
  rw [ET] at hz ⊢
  have CE : Hid (∀ w', Below B w w' → Ce B w' gn 13 t n ao l.length c) := fun w' h => hce.below h
  have J0 : Hid (∀ w', Wo B g (lw) w w' → Calls Tryz.prog 121 #[.pointer (some ⟨g, 0, none⟩), .pointer (some ⟨gn, 0, none⟩), .int .i64 (k : Int)] w' (Wrt B g (lw) (prBr f (.mk 13 t n l a) k) w')) := fun w' h => q B g _ w' _ h.1 (hnd.below h.2.1) (hpf.below h.2.1) (show Sz (lw) (prBr f (.mk 13 t n l a) k) from (by
      have := hz
      unfold Sz at this ⊢
      (try simp only [List.length_append] at this ⊢)
      omega))
  have H0 : Hid (Wo B g lw w w) := Wo.refl hb
  clear hnd hce hch hpf hz hb ET hcap
  go_enter Tryz.func89, Tryz.ntmps89
  obtain ⟨-, d0, d1, d2, d3⟩ := CE.out w H0.out.2.1
  have J := hide (J0.out w H0.out)
  clear J0
  go_wp2_with fail
  refine J.out.mono ?_
  rintro e w1 ⟨rfl, h⟩
  have H1 := hide (H0.out.trans h)
  clear h J H0 d0 d1 d2 d3
  go_wp2_with fail
  go_end0
  exact ⟨rfl, by have h := H1.out; first | exact h | (simp only [List.append_assoc] at h ⊢; exact h) | (simp only [List.append_assoc, List.cons_append, List.nil_append] at h ⊢; exact h)⟩
set_option maxHeartbeats 4000000 in
theorem st14 {f k : Nat} {t : ByteArray} {n : Int} {l : List Tree} {a : Nat} (hl : 2 ≤ l.length) (e0 : EW l[0]) (q1 : BlkW f l[1] k) : StW (f + 1) (.mk 14 t n l a) k := by
  intro B g lw w v hb hnd hpf hz
  obtain ⟨gn, ao, c, gl, gs, rfl, hce, hcap, hch⟩ := nd_open hnd
  have ET : prSt (f + 1) (.mk 14 t n l a) k = ([119, 104, 105, 108, 101, 32] : List UInt8) ++ prE l[0] ++ prBk f l[1] k := by
    rw [prSt]
    rw [← getD_at (show 0 < l.length by omega), ← getD_at (show 1 < l.length by omega)]
    rfl
  rw [ET] at hz ⊢
  have CE : Hid (∀ w', Below B w w' → Ce B w' gn 14 t n ao l.length c) := fun w' h => hce.below h
  have J0 : Hid (∀ w', Wo B g (lw) w w' → Calls Tryz.prog 122 #[.pointer (some ⟨g, 0, none⟩), .string ⟨#[119, 104, 105, 108, 101, 32]⟩, .pointer (some ⟨gn, 0, none⟩), .int .i64 (k : Int)] w' (Wrt B g (lw) (([119, 104, 105, 108, 101, 32] : List UInt8) ++ prE l[0] ++ prBk f l[1] k) w')) := fun w' h => loop_w ⟨#[119, 104, 105, 108, 101, 32]⟩ hl e0 q1 h.1 (hnd.below h.2.1) (hpf.below h.2.1) (show Sz (lw) (([119, 104, 105, 108, 101, 32] : List UInt8) ++ prE l[0] ++ prBk f l[1] k) from (by
      have := hz
      unfold Sz at this ⊢
      (try simp only [List.length_append] at this ⊢)
      omega))
  have H0 : Hid (Wo B g lw w w) := Wo.refl hb
  clear hnd hce hch hpf hz hb ET hcap
  go_enter Tryz.func89, Tryz.ntmps89
  obtain ⟨-, d0, d1, d2, d3⟩ := CE.out w H0.out.2.1
  have J := hide (J0.out w H0.out)
  clear J0
  go_wp2_with fail
  refine J.out.mono ?_
  rintro e w1 ⟨rfl, h⟩
  have H1 := hide (H0.out.trans h)
  clear h J H0 d0 d1 d2 d3
  go_wp2_with fail
  go_end0
  exact ⟨rfl, by have h := H1.out; first | exact h | (simp only [List.append_assoc] at h ⊢; exact h) | (simp only [List.append_assoc, List.cons_append, List.nil_append] at h ⊢; exact h)⟩
set_option maxHeartbeats 4000000 in
theorem st15 {f k : Nat} {t : ByteArray} {n : Int} {l : List Tree} {a : Nat} (hl : 2 ≤ l.length) (e0 : EW l[0]) (q1 : BlkW f l[1] k) : StW (f + 1) (.mk 15 t n l a) k := by
  intro B g lw w v hb hnd hpf hz
  obtain ⟨gn, ao, c, gl, gs, rfl, hce, hcap, hch⟩ := nd_open hnd
  have ET : prSt (f + 1) (.mk 15 t n l a) k = ([114, 101, 112, 101, 97, 116, 32] : List UInt8) ++ prE l[0] ++ prBk f l[1] k := by
    rw [prSt]
    rw [← getD_at (show 0 < l.length by omega), ← getD_at (show 1 < l.length by omega)]
    rfl
  rw [ET] at hz ⊢
  have CE : Hid (∀ w', Below B w w' → Ce B w' gn 15 t n ao l.length c) := fun w' h => hce.below h
  have J0 : Hid (∀ w', Wo B g (lw) w w' → Calls Tryz.prog 122 #[.pointer (some ⟨g, 0, none⟩), .string ⟨#[114, 101, 112, 101, 97, 116, 32]⟩, .pointer (some ⟨gn, 0, none⟩), .int .i64 (k : Int)] w' (Wrt B g (lw) (([114, 101, 112, 101, 97, 116, 32] : List UInt8) ++ prE l[0] ++ prBk f l[1] k) w')) := fun w' h => loop_w ⟨#[114, 101, 112, 101, 97, 116, 32]⟩ hl e0 q1 h.1 (hnd.below h.2.1) (hpf.below h.2.1) (show Sz (lw) (([114, 101, 112, 101, 97, 116, 32] : List UInt8) ++ prE l[0] ++ prBk f l[1] k) from (by
      have := hz
      unfold Sz at this ⊢
      (try simp only [List.length_append] at this ⊢)
      omega))
  have H0 : Hid (Wo B g lw w w) := Wo.refl hb
  clear hnd hce hch hpf hz hb ET hcap
  go_enter Tryz.func89, Tryz.ntmps89
  obtain ⟨-, d0, d1, d2, d3⟩ := CE.out w H0.out.2.1
  have J := hide (J0.out w H0.out)
  clear J0
  go_wp2_with fail
  refine J.out.mono ?_
  rintro e w1 ⟨rfl, h⟩
  have H1 := hide (H0.out.trans h)
  clear h J H0 d0 d1 d2 d3
  go_wp2_with fail
  go_end0
  exact ⟨rfl, by have h := H1.out; first | exact h | (simp only [List.append_assoc] at h ⊢; exact h) | (simp only [List.append_assoc, List.cons_append, List.nil_append] at h ⊢; exact h)⟩
set_option maxHeartbeats 4000000 in
theorem st_sm {f k op : Nat} {t : ByteArray} {n : Int} {l : List Tree} {a : Nat} (h3 : op ≠ 13 ∧ op ≠ 14 ∧ op ≠ 15) (q : SW (.mk op t n l a)) : StW (f + 1) (.mk op t n l a) k := by
  intro B g lw w v hb hnd hpf hz
  obtain ⟨gn, ao, c, gl, gs, rfl, hce, hcap, hch⟩ := nd_open hnd
  have ET : prSt (f + 1) (.mk op t n l a) k = prM (.mk op t n l a) ++ ([59] : List UInt8) := by
    rw [prSt]
    show (if op = 13 then _ else if op = 14 then _ else if op = 15 then _ else _) = _
    rw [if_neg h3.1, if_neg h3.2.1, if_neg h3.2.2]
  rw [ET] at hz ⊢
  have CE : Hid (∀ w', Below B w w' → Ce B w' gn op t n ao l.length c) := fun w' h => hce.below h
  have n1 : ¬ (op : Int) = 13 := by omega
  have n2 : ¬ (op : Int) = 14 := by omega
  have n3 : ¬ (op : Int) = 15 := by omega
  have J0 : Hid (∀ w', Wo B g (lw) w w' → Calls Tryz.prog 123 #[.pointer (some ⟨g, 0, none⟩), .pointer (some ⟨gn, 0, none⟩)] w' (Wrt B g (lw) (prM (.mk op t n l a)) w')) := fun w' h => q B g _ w' _ h.1 (hnd.below h.2.1) (hpf.below h.2.1) (show Sz (lw) (prM (.mk op t n l a)) from (by
      have := hz
      unfold Sz at this ⊢
      (try simp only [List.length_append] at this ⊢)
      omega))
  have J1 : Hid (∀ w', Wo B g (lw ++ (prM (.mk op t n l a))) w w' → Calls Tryz.prog 57 #[.pointer (some ⟨g, 0, none⟩), .slice (some ⟨w'.heap.size, 0, none⟩) 1 1] (w'.alloc (.cells #[.string ⟨#[59]⟩] 9)) (Wrt B g (lw ++ (prM (.mk op t n l a))) ([59] : List UInt8) w')) := fun w' h => put1 ⟨#[59]⟩ h.1 (show Sz (lw ++ (prM (.mk op t n l a))) ([59] : List UInt8) from (by
      have := hz
      unfold Sz at this ⊢
      (try simp only [List.length_append] at this ⊢)
      omega))
  have H0 : Hid (Wo B g lw w w) := Wo.refl hb
  clear hnd hce hch hpf hz hb ET hcap
  go_enter Tryz.func89, Tryz.ntmps89
  obtain ⟨-, d0, d1, d2, d3⟩ := CE.out w H0.out.2.1
  have J := hide (J0.out w H0.out)
  clear J0
  go_wp2_with fail
  refine J.out.mono ?_
  rintro e w1 ⟨rfl, h⟩
  have H1 := hide (H0.out.trans h)
  clear h J H0 d0 d1 d2 d3
  obtain ⟨-, d0, d1, d2, d3⟩ := CE.out w1 H1.out.2.1
  have J := hide (J1.out w1 H1.out)
  clear J1
  go_wp2_with fail
  refine J.out.mono ?_
  rintro e w2 ⟨rfl, h⟩
  have H2 := hide (H1.out.trans h)
  clear h J H1 d0 d1 d2 d3
  go_wp2_with fail
  go_end0
  exact ⟨rfl, by have h := H2.out; first | exact h | (simp only [List.append_assoc] at h ⊢; exact h) | (simp only [List.append_assoc, List.cons_append, List.nil_append] at h ⊢; exact h)⟩
end Go.Proofs.YtmfoehaeejhlpaaGreatDoor

/-
  What writes: clauses, members.
-/
namespace Go.Proofs.YtmfoehaeejhlpaaGreatDoor
open Go.RowKit Yn
set_option maxRecDepth 100000
/-- What a loop or a branch has at its head may be written. -/
def okLp (okb : Tree → Prop) (T : Tree) : Prop := 2 ≤ (lsT T).length ∧ EW ((lsT T).getD 0 nilT) ∧ okb ((lsT T).getD 1 nilT)
mutual
def okSt : Nat → Tree → Prop
  | 0, _ => False
  | f + 1, T => if opT T = 13 then okBr f T else if opT T = 14 ∨ opT T = 15 then okLp (okBk f) T else SW T
def okBr : Nat → Tree → Prop
  | 0, _ => False
  | f + 1, T => okLp (okBk f) T ∧ ((lsT T).length = 2 ∨ (3 ≤ (lsT T).length ∧ if opT ((lsT T).getD 2 nilT) = 13 then okBr f ((lsT T).getD 2 nilT) else okBk f ((lsT T).getD 2 nilT)))
def okBk : Nat → Tree → Prop
  | 0, _ => False
  | f + 1, T => (lsT T).length ≤ 1048576 ∧ ∀ i (h : i < (lsT T).length), okSt f (lsT T)[i]
end
theorem all_w : ∀ f : Nat, (∀ T k, k + f ≤ 1000000 → okSt f T → StW f T k) ∧ (∀ T k, k + f ≤ 1000000 → okBr f T → BrW f T k) ∧ (∀ T k, k + f ≤ 1000000 → okBk f T → BlkW f T k)
  | 0 => ⟨fun T k _ h => by rw [okSt] at h; exact h.elim, fun T k _ h => by rw [okBr] at h; exact h.elim, fun T k _ h => by rw [okBk] at h; exact h.elim⟩
  | f + 1 => by
    obtain ⟨i1, i2, i3⟩ := all_w f
    refine ⟨fun T k hk h => ?_, fun T k hk h => ?_, fun T k hk h => ?_⟩
    · obtain ⟨op, t, n, l, a⟩ := T
      rw [okSt] at h
      have h : if op = 13 then okBr f (.mk op t n l a) else if op = 14 ∨ op = 15 then okLp (okBk f) (.mk op t n l a) else SW (.mk op t n l a) := h
      by_cases h1 : op = 13
      · subst h1
        rw [if_pos rfl] at h
        exact st13 (i2 _ k (by omega) h)
      · rw [if_neg h1] at h
        by_cases h2 : op = 14 ∨ op = 15
        · rw [if_pos h2] at h
          obtain ⟨q1, q2, q3⟩ := h
          have q1 : 2 ≤ l.length := q1
          have q2 : EW (l.getD 0 nilT) := q2
          have q3 : okBk f (l.getD 1 nilT) := q3
          rw [getD_at (show 0 < l.length by omega)] at q2
          rw [getD_at (show 1 < l.length by omega)] at q3
          rcases h2 with rfl | rfl
          · exact st14 q1 q2 (i3 _ k (by omega) q3)
          · exact st15 q1 q2 (i3 _ k (by omega) q3)
        · rw [if_neg h2] at h
          exact st_sm ⟨h1, fun e => h2 (.inl e), fun e => h2 (.inr e)⟩ h
    · obtain ⟨op, t, n, l, a⟩ := T
      rw [okBr] at h
      obtain ⟨⟨q1, q2, q3⟩, q4⟩ := h
      have q1 : 2 ≤ l.length := q1
      have q2 : EW (l.getD 0 nilT) := q2
      have q3 : okBk f (l.getD 1 nilT) := q3
      rw [getD_at (show 0 < l.length by omega)] at q2
      rw [getD_at (show 1 < l.length by omega)] at q3
      have q5 := i3 _ k (by omega) q3
      have q4 : l.length = 2 ∨ (3 ≤ l.length ∧ if opT (l.getD 2 nilT) = 13 then okBr f (l.getD 2 nilT) else okBk f (l.getD 2 nilT)) := q4
      rcases q4 with q4 | ⟨q4, q6⟩
      · exact br2 q4 q2 q5
      · rw [getD_at (show 2 < l.length by omega)] at q6
        by_cases h3 : opT l[2] = 13
        · rw [if_pos h3] at q6
          exact br3 q4 q2 q5 h3 (i2 _ k (by omega) q6)
        · rw [if_neg h3] at q6
          exact br4 q4 q2 q5 h3 (i3 _ k (by omega) q6)
    · obtain ⟨op, t, n, l, a⟩ := T
      rw [okBk] at h
      exact block_w (fun i hi => i1 _ (k + 1) (by omega) (h.2 i hi)) h.1 (by omega)
def namB (l : List Tree) : List UInt8 := comJ (l.map txT |>.map fun x => x.data.toList)
def clB : Tree → List UInt8 | .mk _ t _ l _ => if l.length = 0 then [] else ([32] ++ t.data.toList ++ [32]) ++ namB l
def CW (T : Tree) : Prop := ∀ (B g : Nat) (l : List UInt8) (w : World) (v : Value), Bt B g l w → Nd (fun q => q < B) w T v → Sz l (clB T) → Calls Tryz.prog 58 #[.pointer (some ⟨g, 0, none⟩), v] w (Wrt B g l (clB T) w)
set_option maxHeartbeats 4000000 in
theorem clause_w {op : Nat} {t : ByteArray} {n : Int} {l : List Tree} {a : Nat} (hn : l.length ≤ 1048576) : CW (.mk op t n l a) := by
  intro B g lw w v hb hnd hz
  obtain ⟨gn, ao, c, gl, gs, rfl, hce, hcap, hch⟩ := nd_open hnd
  by_cases h0 : l.length = 0
  · have ET : clB (.mk op t n l a) = [] := if_pos h0
    have HF : Hid (Wrt B g lw [] w (.returned (.tuple #[])) w) := ⟨rfl, by rw [List.append_nil]; exact Wo.refl hb⟩
    rw [ET]
    obtain ⟨-, d0, d1, d2, d3⟩ := hce
    have k1 : ¬ (0 : Int) < (l.length : Int) := by omega
    clear hb hnd hz hcap hch ET h0
    go_enter Tryz.func58, Tryz.ntmps58
    go_wp2_with fail
    go_end0
    exact HF.out
  · have ET : clB (.mk op t n l a) = (([32] : List UInt8) ++ t.data.toList ++ ([32] : List UInt8)) ++ namB l := if_neg h0
    rw [ET] at hz ⊢
    have CE : Hid (∀ w', Below B w w' → Ce B w' gn op t n ao l.length c) := fun w' h => hce.below h
    have k1 : (0 : Int) < (l.length : Int) := by omega
    have J0 : Hid (∀ w', Wo B g (lw) w w' → Calls Tryz.prog 57 #[.pointer (some ⟨g, 0, none⟩), .slice (some ⟨w'.heap.size, 0, none⟩) 3 3] (w'.alloc (.cells #[.string ⟨#[32]⟩, .string t, .string ⟨#[32]⟩] 9)) (Wrt B g (lw) (([32] : List UInt8) ++ t.data.toList ++ ([32] : List UInt8)) w')) := fun w' h => put3 ⟨#[32]⟩ t ⟨#[32]⟩ h.1 (show Sz (lw) (([32] : List UInt8) ++ t.data.toList ++ ([32] : List UInt8)) from (by
        have := hz
        unfold Sz at this ⊢
        (try simp only [List.length_append] at this ⊢)
        omega))
    have J1 : Hid (∀ w', Wo B g (lw ++ (([32] : List UInt8) ++ t.data.toList ++ ([32] : List UInt8))) w w' → Calls Tryz.prog 60 #[.pointer (some ⟨g, 0, none⟩), .slice ao l.length c] w' (Wrt B g (lw ++ (([32] : List UInt8) ++ t.data.toList ++ ([32] : List UInt8))) (namB l) w')) := fun w' h => names_w l h.1 (hch.below h.2.1) hn (show Sz (lw ++ (([32] : List UInt8) ++ t.data.toList ++ ([32] : List UInt8))) (namB l) from (by
        have := hz
        unfold Sz at this ⊢
        (try simp only [List.length_append] at this ⊢)
        omega))
    have H0 : Hid (Wo B g lw w w) := Wo.refl hb
    clear hnd hce hch hz hb ET hcap
    go_enter Tryz.func58, Tryz.ntmps58
    obtain ⟨-, d0, d1, d2, d3⟩ := CE.out w H0.out.2.1
    have J := hide (J0.out w H0.out)
    clear J0
    go_wp2_with fail
    refine J.out.mono ?_
    rintro e w1 ⟨rfl, h⟩
    have H1 := hide (H0.out.trans h)
    clear h J H0 d0 d1 d2 d3
    obtain ⟨-, d0, d1, d2, d3⟩ := CE.out w1 H1.out.2.1
    have J := hide (J1.out w1 H1.out)
    clear J1
    go_wp2_with fail
    refine J.out.mono ?_
    rintro e w2 ⟨rfl, h⟩
    have H2 := hide (H1.out.trans h)
    clear h J H1 d0 d1 d2 d3
    go_wp2_with fail
    go_end0
    exact ⟨rfl, by have h := H2.out; first | exact h | (simp only [List.append_assoc] at h ⊢; exact h) | (simp only [List.append_assoc, List.cons_append, List.nil_append] at h ⊢; exact h)⟩
def prMb (f : Nat) : Tree → List UInt8 | .mk op t _ l _ => if op = 2 then ([115, 121, 115, 116, 101, 109, 32] ++ t.data.toList) ++ ((l.take 4).map clB).flatten ++ prBk f (l.getD 4 nilT) 0 ++ [10] else ([102, 117, 110, 99, 32] ++ t.data.toList ++ [40]) ++ namB (lsT (l.getD 0 nilT)) ++ [41] ++ prBk f (l.getD 1 nilT) 0 ++ [10]
def MW (f : Nat) (T : Tree) : Prop := ∀ (B g : Nat) (l : List UInt8) (w : World) (v : Value), Bt B g l w → Nd (fun q => q < B) w T v → Pf B w → Sz l (prMb f T) → Calls Tryz.prog 33 #[.pointer (some ⟨g, 0, none⟩), v] w (Wrt B g l (prMb f T) w)
set_option maxHeartbeats 4000000 in
theorem member_f {f op : Nat} {t : ByteArray} {n : Int} {l : List Tree} {a : Nat} (hop : op ≠ 2) (hl : 2 ≤ l.length) (hn0 : (lsT l[0]).length ≤ 1048576) (q1 : BlkW f l[1] 0) : MW f (.mk op t n l a) := by
  intro B g lw w v hb hnd hpf hz
  obtain ⟨gn, ao, c, gl, gs, rfl, hce, hcap, hch⟩ := nd_open hnd
  obtain ⟨rfl, -⟩ := hch.2.1 (by omega)
  obtain ⟨g0, k0⟩ := ch_at hch 0 (by omega)
  obtain ⟨g1, k1⟩ := ch_at hch 1 (by omega)
  have hnd0 := (k0 w (Below.refl _ _)).2
  have hl0 : (0 : Int) < (l.length : Int) := by omega
  have hl1 : (1 : Int) < (l.length : Int) := by omega
  obtain ⟨T0, hT0⟩ : ∃ T0, T0 = l[0] := ⟨_, rfl⟩
  rw [← hT0] at hnd0 hn0
  obtain ⟨o0, t0, n0, l0, a0⟩ := T0
  have hn0 : l0.length ≤ 1048576 := hn0
  obtain ⟨g', ao', c', gl', gs', e2, hce', hcap', hch'⟩ := nd_open hnd0
  injection e2 with e2
  injection e2 with e2
  injection e2 with e2 _ _
  subst e2
  have ET : prMb f (.mk op t n l a) = (([102, 117, 110, 99, 32] : List UInt8) ++ t.data.toList ++ ([40] : List UInt8)) ++ namB l0 ++ ([41] : List UInt8) ++ prBk f l[1] 0 ++ ([10] : List UInt8) := by
    show (if op = 2 then _ else _) = _
    rw [if_neg hop, getD_at (show 0 < l.length by omega), getD_at (show 1 < l.length by omega), ← hT0]
    rfl
  rw [ET] at hz ⊢
  have CE : Hid (∀ w', Below B w w' → Ce B w' gn op t n (some ⟨gl, 0, none⟩) l.length c) := fun w' h => hce.below h
  have C0 : Hid (∀ w', Below B w w' → Ce B w' g0 o0 t0 n0 ao' l0.length c') := fun w' h => hce'.below h
  have K0 : Hid (∀ w', Below B w w' → w'.cell? ⟨gl, 0, none⟩ = some (.pointer (some ⟨g0, 0, none⟩))) := fun w' h => (k0 w' h).1
  have K1 : Hid (∀ w', Below B w w' → w'.cell? ⟨gl, 1, none⟩ = some (.pointer (some ⟨g1, 0, none⟩))) := fun w' h => (k1 w' h).1
  have ko : ¬ (op : Int) = 2 := by omega
  have J0 : Hid (∀ w', Wo B g (lw) w w' → Calls Tryz.prog 57 #[.pointer (some ⟨g, 0, none⟩), .slice (some ⟨w'.heap.size, 0, none⟩) 3 3] (w'.alloc (.cells #[.string ⟨#[102, 117, 110, 99, 32]⟩, .string t, .string ⟨#[40]⟩] 9)) (Wrt B g (lw) (([102, 117, 110, 99, 32] : List UInt8) ++ t.data.toList ++ ([40] : List UInt8)) w')) := fun w' h => put3 ⟨#[102, 117, 110, 99, 32]⟩ t ⟨#[40]⟩ h.1 (show Sz (lw) (([102, 117, 110, 99, 32] : List UInt8) ++ t.data.toList ++ ([40] : List UInt8)) from (by
      have := hz
      unfold Sz at this ⊢
      (try simp only [List.length_append] at this ⊢)
      omega))
  have J1 : Hid (∀ w', Wo B g (lw ++ (([102, 117, 110, 99, 32] : List UInt8) ++ t.data.toList ++ ([40] : List UInt8))) w w' → Calls Tryz.prog 60 #[.pointer (some ⟨g, 0, none⟩), .slice ao' l0.length c'] w' (Wrt B g (lw ++ (([102, 117, 110, 99, 32] : List UInt8) ++ t.data.toList ++ ([40] : List UInt8))) (namB l0) w')) := fun w' h => names_w l0 h.1 (hch'.below h.2.1) hn0 (show Sz (lw ++ (([102, 117, 110, 99, 32] : List UInt8) ++ t.data.toList ++ ([40] : List UInt8))) (namB l0) from (by
      have := hz
      unfold Sz at this ⊢
      (try simp only [List.length_append] at this ⊢)
      omega))
  have J2 : Hid (∀ w', Wo B g (lw ++ (([102, 117, 110, 99, 32] : List UInt8) ++ t.data.toList ++ ([40] : List UInt8)) ++ (namB l0)) w w' → Calls Tryz.prog 57 #[.pointer (some ⟨g, 0, none⟩), .slice (some ⟨w'.heap.size, 0, none⟩) 1 1] (w'.alloc (.cells #[.string ⟨#[41]⟩] 9)) (Wrt B g (lw ++ (([102, 117, 110, 99, 32] : List UInt8) ++ t.data.toList ++ ([40] : List UInt8)) ++ (namB l0)) ([41] : List UInt8) w')) := fun w' h => put1 ⟨#[41]⟩ h.1 (show Sz (lw ++ (([102, 117, 110, 99, 32] : List UInt8) ++ t.data.toList ++ ([40] : List UInt8)) ++ (namB l0)) ([41] : List UInt8) from (by
      have := hz
      unfold Sz at this ⊢
      (try simp only [List.length_append] at this ⊢)
      omega))
  have J3 : Hid (∀ w', Wo B g (lw ++ (([102, 117, 110, 99, 32] : List UInt8) ++ t.data.toList ++ ([40] : List UInt8)) ++ (namB l0) ++ ([41] : List UInt8)) w w' → Calls Tryz.prog 59 #[.pointer (some ⟨g, 0, none⟩), .pointer (some ⟨g1, 0, none⟩), .int .i64 0] w' (Wrt B g (lw ++ (([102, 117, 110, 99, 32] : List UInt8) ++ t.data.toList ++ ([40] : List UInt8)) ++ (namB l0) ++ ([41] : List UInt8)) (prBk f l[1] 0) w')) := fun w' h => q1 B g _ w' _ h.1 (k1 w' h.2.1).2 (hpf.below h.2.1) (show Sz (lw ++ (([102, 117, 110, 99, 32] : List UInt8) ++ t.data.toList ++ ([40] : List UInt8)) ++ (namB l0) ++ ([41] : List UInt8)) (prBk f l[1] 0) from (by
      have := hz
      unfold Sz at this ⊢
      (try simp only [List.length_append] at this ⊢)
      omega))
  have J4 : Hid (∀ w', Wo B g (lw ++ (([102, 117, 110, 99, 32] : List UInt8) ++ t.data.toList ++ ([40] : List UInt8)) ++ (namB l0) ++ ([41] : List UInt8) ++ (prBk f l[1] 0)) w w' → Calls Tryz.prog 57 #[.pointer (some ⟨g, 0, none⟩), .slice (some ⟨w'.heap.size, 0, none⟩) 1 1] (w'.alloc (.cells #[.string ⟨#[10]⟩] 9)) (Wrt B g (lw ++ (([102, 117, 110, 99, 32] : List UInt8) ++ t.data.toList ++ ([40] : List UInt8)) ++ (namB l0) ++ ([41] : List UInt8) ++ (prBk f l[1] 0)) ([10] : List UInt8) w')) := fun w' h => put1 ⟨#[10]⟩ h.1 (show Sz (lw ++ (([102, 117, 110, 99, 32] : List UInt8) ++ t.data.toList ++ ([40] : List UInt8)) ++ (namB l0) ++ ([41] : List UInt8) ++ (prBk f l[1] 0)) ([10] : List UInt8) from (by
      have := hz
      unfold Sz at this ⊢
      (try simp only [List.length_append] at this ⊢)
      omega))
  have H0 : Hid (Wo B g lw w w) := Wo.refl hb
  clear hnd hce hch hpf hz hb ET hcap k0 k1 hnd0 hT0 hce' hcap' hch'
  go_enter Tryz.func33, Tryz.ntmps33
  obtain ⟨-, d0, d1, d2, d3⟩ := CE.out w H0.out.2.1
  have x0 := K0.out w H0.out.2.1
  have x1 := K1.out w H0.out.2.1
  have J := hide (J0.out w H0.out)
  clear J0
  go_wp2_with fail
  refine J.out.mono ?_
  rintro e w1 ⟨rfl, h⟩
  have H1 := hide (H0.out.trans h)
  clear h J H0 d0 d1 d2 d3 x0 x1
  obtain ⟨-, d0, d1, d2, d3⟩ := CE.out w1 H1.out.2.1
  have x0 := K0.out w1 H1.out.2.1
  have x1 := K1.out w1 H1.out.2.1
  have J := hide (J1.out w1 H1.out)
  clear J1
  obtain ⟨-, b0, b1, b2, b3⟩ := C0.out w1 H1.out.2.1
  go_wp2_with fail
  refine J.out.mono ?_
  rintro e w2 ⟨rfl, h⟩
  have H2 := hide (H1.out.trans h)
  clear h J H1 d0 d1 d2 d3 x0 x1
  obtain ⟨-, d0, d1, d2, d3⟩ := CE.out w2 H2.out.2.1
  have x0 := K0.out w2 H2.out.2.1
  have x1 := K1.out w2 H2.out.2.1
  have J := hide (J2.out w2 H2.out)
  clear J2
  go_wp2_with fail
  refine J.out.mono ?_
  rintro e w3 ⟨rfl, h⟩
  have H3 := hide (H2.out.trans h)
  clear h J H2 d0 d1 d2 d3 x0 x1
  obtain ⟨-, d0, d1, d2, d3⟩ := CE.out w3 H3.out.2.1
  have x0 := K0.out w3 H3.out.2.1
  have x1 := K1.out w3 H3.out.2.1
  have J := hide (J3.out w3 H3.out)
  clear J3
  go_wp2_with fail
  refine J.out.mono ?_
  rintro e w4 ⟨rfl, h⟩
  have H4 := hide (H3.out.trans h)
  clear h J H3 d0 d1 d2 d3 x0 x1
  obtain ⟨-, d0, d1, d2, d3⟩ := CE.out w4 H4.out.2.1
  have x0 := K0.out w4 H4.out.2.1
  have x1 := K1.out w4 H4.out.2.1
  have J := hide (J4.out w4 H4.out)
  clear J4
  go_wp2_with fail
  refine J.out.mono ?_
  rintro e w5 ⟨rfl, h⟩
  have H5 := hide (H4.out.trans h)
  clear h J H4 d0 d1 d2 d3 x0 x1
  go_wp2_with fail
  go_end0
  exact ⟨rfl, by have h := H5.out; first | exact h | (simp only [List.append_assoc] at h ⊢; exact h) | (simp only [List.append_assoc, List.cons_append, List.nil_append] at h ⊢; exact h)⟩
end Go.Proofs.YtmfoehaeejhlpaaGreatDoor
