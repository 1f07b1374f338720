import Derived.Test.YtkohlhnkaklnpaaRdO
/-
  RecordReads: from the start.
-/
namespace Go.Proofs.Ytkohlhnkaklnpaa
open Go.RowKit Go.Shelf
theorem then_mono {c : Code} {P : Program} {K K' : Act → World → Prop} {Q : Exit → Act → World → Prop} {a : Act} {w : World} (h : c.wp P (Exit.then K Q) a w) (hk : ∀ a w, K a w → K' a w) : c.wp P (Exit.then K' Q) a w := fun b k cs => by
  obtain ⟨e, a', w', q, r⟩ := h b k cs
  refine ⟨e, a', w', ?_, r⟩
  cases e <;> first | exact hk _ _ q | exact q
theorem Keeps.step {W W' : World} {Z : Nat → Prop} {P : World → Prop} (h : Keeps Z W P) (hs : W.heap.size ≤ W'.heap.size) (hk : ∀ k, Z k → W'.heap[k]? = W.heap[k]?) : Keeps Z W' P :=
  ⟨fun k e => Nat.lt_of_lt_of_le (h.1 k e) hs, fun V hs' hv => h.2 V (Nat.le_trans hs hs') (fun k e => (hv k e).trans (hk k e))⟩
theorem scanned_keep {w : World} {B : Nat} {v : Value} {ds : List (List UInt8)} (h : Scanned w B v ds) : ∃ us, Hid (Keeps (Iv B w.heap.size) w (fun V => V.ownsRow B 22 1 v ds.length us ∧ Pieces V B us ds)) ∧ Hid ((∀ k, Of us k → B ≤ k ∧ k < w.heap.size) ∧ (∀ k, v.ownBlock = some k → B ≤ k ∧ k < w.heap.size) ∧ ∀ k, Of us k → v.ownBlock ≠ some k) := by
  obtain ⟨us, h1, h2, h3⟩ := h
  have hU : ∀ k, Of us k → B ≤ k ∧ k < w.heap.size := fun k ⟨u, hu, e⟩ => h2.lt u hu k e
  have hV : ∀ k, v.ownBlock = some k → B ≤ k ∧ k < w.heap.size := fun k e => h1.lt k e
  exact ⟨us, ⟨fun k e => e.2, fun V hs hv => ⟨own_on h1 (fun k e => hv k (hV k e)), ((pieces_keep h2).2 V hs (fun k e => hv k (hU k e)))⟩⟩, hU, hV, fun k ⟨u, hu, e⟩ e' => h3 u hu k e e'⟩
theorem listed_low {w : World} {B B' : Nat} {v : Value} {ds : List (List UInt8)} (h : Listed w B v ds) (hB : B' ≤ B) : Listed w B' v ds := by
  obtain ⟨vs, h1, h2, h3⟩ := h
  exact ⟨vs, own_low h1 hB, h2, fun i a b => own_low (h3 i a b) hB⟩
set_option maxHeartbeats 8000000 in
set_option maxRecDepth 100000 in
theorem scanned_any (v : Value) (b : List UInt8) (stop : Int) (w : World) (h : Bs w v b) (hn : NilOr v) (hl : b.length ≤ 1048576) : Calls Try.prog 16 #[v, .int .i64 stop] w fun e w' => e = .returned (.bool true) ∧ Below w.heap.size w w' := by
  refine (callsIn_wide (n := 6)).1 ?_
  refine callsIn_of_wp_marks Try.func16 rfl trivial ?_ rfl
  simp only [Try.ntmps16, List.size_toArray, List.length_nil, List.length_cons, Nat.reduceAdd, Nat.reduceSub, Array.replicate_succ, Array.replicate_zero, List.push_toArray, List.append_toArray, List.nil_append, List.cons_append]
  refine wpIn_wide.2 ?_
  obtain ⟨ao, c, rfl, h1, h2, h3⟩ := id h
  have H := hide h
  have HN := hide hn
  unfold maxLen at h2
  clear h h3 hn
  go_wp2_with fail
  -- the two boxes
  have hA : Below w.heap.size w ((w.alloc (.cells #[.int .i64 stop] 3)).alloc (.cells #[.bool false] 4)) := ((Below.refl _ w).alloc (Nat.le_refl _) _).alloc (by simp) _
  have hst0 : ((w.alloc (.cells #[.int .i64 stop] 3)).alloc (.cells #[.bool false] 4)).heap[w.heap.size]? = some (.cells #[.int .i64 stop] 3 (0, 0)) := (heap_alloc_old _ _ (by simp)).trans (heap_alloc_new w _)
  have hrs0 : ((w.alloc (.cells #[.int .i64 stop] 3)).alloc (.cells #[.bool false] 4)).heap[w.heap.size + 1]? = some (.cells #[.bool false] 4 (0, 0)) := by
    have := heap_alloc_new (w.alloc (.cells #[.int .i64 stop] 3)) (.cells #[.bool false] 4)
    simpa using this
  have hsz0 : ((w.alloc (.cells #[.int .i64 stop] 3)).alloc (.cells #[.bool false] 4)).heap.size = w.heap.size + 2 := by simp
  have H0 : Hid (Bs ((w.alloc (.cells #[.int .i64 stop] 3)).alloc (.cells #[.bool false] 4)) (.slice ao b.length c) b) := on_bs H.out hA
  generalize (w.alloc (.cells #[.int .i64 stop] 3)).alloc (.cells #[.bool false] 4) = wA at *
  have HA := hide (And.intro hA (And.intro hst0 (And.intro hrs0 hsz0)))
  have hvb : 0 < b.length → ∀ k, (Value.slice ao b.length c).ownBlock = some k → k < w.heap.size := bs_block H.out
  have HVB := hide hvb
  clear hA hst0 hrs0 hvb
  obtain ⟨B, hB⟩ : ∃ B, B = wA.heap.size := ⟨_, rfl⟩
  have hlent := lent_any _ b wA H0.out (by omega)
  refine hlent.mono ?_
  rintro e w1 ⟨rfl, hr1, hb1⟩
  rw [← hB] at hr1 hb1 ⊢
  have HBB := hide hB
  have hB2 : w.heap.size + 2 = B := by omega
  have HB2' := hide hB2
  clear hlent hB hsz0 hB2
  have hs1 := hr1.lt
  have hx8 : b.length ≤ b.length + 8 := by omega
  have hbx1 : Bs w1 (.slice (some ⟨B, 0, none⟩) b.length (b.length + 8)) b := by
    have := hr1.bs (n := b.length) (c := b.length + 8) (by simp) (by omega) (by unfold maxLen; omega)
    rwa [List.take_left] at this
  have HR1 := hide hr1
  have HX1 := hide hbx1
  have HB1 : Hid (Below B wA w1) := hb1
  clear hr1 hbx1 hb1
  go_wp2_with fail
  have hget := rget_any _ b w1 HX1.out
  refine hget.mono ?_
  rintro e w2 ⟨vd, rfl, hpd, hb2⟩
  have HX2 := hide (on_bs HX1.out hb2)
  have HR2 : Hid (Row w2 B (b ++ List.replicate 8 201)) := HR1.out.below hb2 hs1
  have HPD := hide hpd
  have hs2 := hb2.size
  have HB2 := hide (HB1.out.trans (hb2.mono (by omega)))
  clear hget hpd hb2 HX1 HR1 HB1
  go_wp2_with fail
  have hget := rget_any _ b w2 HX2.out
  refine hget.mono ?_
  rintro e w3 ⟨ve, rfl, hpe, hb3⟩
  have HR3 : Hid (Row w3 B (b ++ List.replicate 8 201)) := HR2.out.below hb3 (by omega)
  have HPD3 := hide (HPD.out.later hb3)
  have HPE := hide hpe
  have hs3 := hb3.size
  have HAP0 : Hid (∀ k, ve.ownBlock = some k → vd.ownBlock ≠ some k) := fun k e e' => by
    have h1 := (hpe.block k e).1
    have h2 := (HPD.out.block k e').2
    omega
  have HDL0 : Hid (∀ k, vd.ownBlock = some k → k < w2.heap.size) := fun k e => (HPD.out.block k e).2
  have HB3 := hide (HB2.out.trans (hb3.mono (by omega)))
  clear hget hpe hb3 HX2 HR2 HB2 HPD
  go_wp2_with fail
  have hstill := still_row B (.slice ao b.length c) b w3 (by omega) HR3.out (H0.out.below HB3.out (Nat.le_of_eq HBB.out.symm)) (fun h g' e => by have := HVB.out h g' e; have := HB2'.out; omega)
  refine hstill.mono ?_
  rintro e w4 ⟨rfl, hr4, hg4⟩
  have hs4 := hg4.size
  have HB4 := hide (HB3.out.grown hg4 (by omega) (fun k e => by cases e; exact Nat.le_refl _))
  have HPD4 := hide (HPD3.out.grow hg4 (fun g hg e => by cases e; have := (HPD3.out.block _ hg).1; omega))
  have HPE4 := hide (HPE.out.grow hg4 (fun g hg e => by cases e; have := (HPE.out.block _ hg).1; omega))
  have hx4 : Bs w4 (.slice (some ⟨B, 0, none⟩) b.length (b.length + 8)) (List.replicate b.length 77) := by
    have := hr4.bs (n := b.length) (c := b.length + 8) (by simp) (by omega) (by unfold maxLen; omega)
    rwa [List.take_replicate, Nat.min_eq_left (by omega)] at this
  have HX4 := hide hx4
  clear hstill hr4 hg4 hx4 HR3 HPD3 HPE HB3
  go_wp2_with fail
  have hget := rget_any _ _ w4 HX4.out
  rw [get_sevens] at hget
  refine hget.mono ?_
  rintro e w5 ⟨v77, rfl, hp7, hb5⟩
  obtain rfl : v77 = .slice none 0 0 := by
    rcases hp7 with ⟨h, _⟩ | ⟨g, o, cur, h, _, h', _⟩
    · exact h
    · exact absurd rfl h'
  have HPD5 := hide (HPD4.out.later hb5)
  have HPE5 := hide (HPE4.out.later hb5)
  have hs5 := hb5.size
  have HB5 := hide (HB4.out.trans (hb5.mono (by omega)))
  clear hget hp7 hb5 HX4 HPD4 HPE4 HB4
  go_wp2_with fail
  have hgetr := reftake_any _ b w5 (H0.out.below HB5.out (Nat.le_of_eq HBB.out.symm))
  refine hgetr.mono ?_
  rintro e w6 ⟨vw, rfl, how, hb6⟩
  have HPD6 := hide (HPD5.out.later hb6)
  have HPE6 := hide (HPE5.out.later hb6)
  have HOW := hide how
  have hs6 := hb6.size
  have HB6 := hide (HB5.out.trans (hb6.mono (by omega)))
  clear hgetr how hb6 HPD5 HPE5 HB5
  obtain ⟨G, hG⟩ : ∃ G, G = (Rc.get b).1 := ⟨_, rfl⟩
  obtain ⟨m, hm⟩ : ∃ m, m = (Rc.get b).2 := ⟨_, rfl⟩
  rw [← hG] at HPD6 HPE6 HOW
  rw [← hm]
  have hGl : G.length ≤ 1048576 := by rw [hG]; exact Nat.le_trans (get_len b) hl
  clear hG hm
  have cvd := conv_bs HPD6.out.bs
  have cve := conv_bs HPE6.out.bs
  have cvw := conv_bs (own_bs HOW.out)
  have HAP := HAP0
  have HDL := HDL0
  clear HAP0 HDL0
  obtain ⟨aod, nd, cd, rfl⟩ := HPD6.out.shape
  obtain ⟨aoe, ne, ce, rfl⟩ := HPE6.out.shape
  obtain ⟨aow, cw, rfl⟩ := own_len HOW.out
  have z1 : ((ByteArray.mk (List.toArray G)).toList == (ByteArray.mk (List.toArray G)).toList) = true := by simp
  go_wp2_with fail
  have hpd := HPD6.out.low (B' := B) (by omega)
  have hpe := HPE6.out.low (B' := B) (by omega)
  have hap : ∀ k, (Value.slice aoe ne ce).ownBlock = some k → (Value.slice aod nd cd).ownBlock ≠ some k := HAP.out
  have hk := keep_kz (Kz.none w6 B) hpd (fun k _ e => e) (by omega) (by omega) (by omega)
  refine hk.mono ?_
  rintro e w7 ⟨aok, nk1, ck, rfl, hkz, hmv⟩
  have hs7 := hmv.2.2.2.1
  have hwb := HOW.out.lt
  have hpe7 : Piece w7 B (.slice aoe ne ce) G := hpe.on (fun k e => hmv.2.2.2.2 k (hpe.block k e).2 (fun e' => by
    rcases e' with e' | e'
    · exact e'
    · exact hap k e e'))
  have how7 := own_on HOW.out (fun k e => hmv.2.2.2.2 k (hwb k e).2 (fun e' => by
    rcases e' with e' | e'
    · exact e'
    · have h1 := (hwb k e).1
      have h2 := (HPD6.out.block k e').2
      have h3 := HDL.out k e'
      omega))
  have cve7 := conv_bs hpe7.bs
  have cvw7 := conv_bs (own_bs how7)
  have HB7 := hide (HB6.out.trans (hmv.below (by omega) (fun k e' => by
    rcases e' with e' | e'
    · exact e'.elim
    · exact (hpd.block k e').1)))
  have HKZ := hide hkz
  have HPE7 := hide hpe7
  have HAP2 : Hid (∀ k, (Value.slice aoe ne ce).ownBlock = some k → ¬ (False ∨ (Value.slice aod nd cd).ownBlock = some k ∨ (w6.heap.size ≤ k ∧ k < w7.heap.size))) := fun k e e' => by
    rcases e' with e' | e' | e'
    · exact e'
    · exact hap k e e'
    · have := (hpe.block k e).2
      omega
  clear hpd hpe hap hk hkz hmv hwb hpe7 how7 cvd cve cvw HPD6 HPE6 HOW HB6 HAP HDL
  go_wp2_with fail
  have hk := keep_kz HKZ.out HPE7.out HAP2.out (by omega) (by omega) (by omega)
  refine hk.mono ?_
  rintro e w8 ⟨aok, nk2, ck, rfl, hkz, hmv⟩
  have hs8 := hmv.2.2.2.1
  have HB8 := hide (HB7.out.trans (hmv.below (by omega) (fun k e' => by
    rcases e' with e' | e'
    · exact (HKZ.out.lt k e').1
    · exact (HPE7.out.block k e').1)))
  obtain ⟨K1, hK1⟩ : ∃ K : Nat → Prop, Kz w8 B 4 K (.slice aok nk2 ck) := ⟨_, hkz⟩
  have HK1 := hide hK1
  have HKlt : Hid (∀ k, K1 k → k < w8.heap.size) := fun k e => (hK1.lt k e).2
  have HNK : Hid (¬ K1 w8.heap.size) := fun e => by have := (hK1.lt _ e).2; omega
  clear hk hkz hmv hK1 HKZ HPE7 HAP2 HB7 cve7 cvw7 z1
  go_wp2_with fail
  have hlent := lent_any _ b w8 (H0.out.below HB8.out (Nat.le_of_eq HBB.out.symm)) (by omega)
  refine hlent.mono ?_
  rintro e w9 ⟨rfl, hr9, hb9⟩
  have hs9 := hr9.lt
  have hBw8 : B ≤ w8.heap.size := by omega
  have hby9 : Bs w9 (.slice (some ⟨w8.heap.size, 0, none⟩) b.length (b.length + 8)) b := by
    have := hr9.bs (n := b.length) (c := b.length + 8) (by simp) (by omega) (by unfold maxLen; omega)
    rwa [List.take_left] at this
  have HR9 := hide hr9
  have HY9 := hide hby9
  have HB9 := hide (HB8.out.trans (hb9.mono hBw8))
  have HK9 := hide (HK1.out.later hb9)
  clear hlent hr9 hby9 hb9 HB8 HK1
  go_wp2_with fail
  have hscan := scan_any _ b w9 HY9.out (.inr ⟨_, _, _, rfl⟩) (by omega)
  refine hscan.mono ?_
  rintro e w10 ⟨v17, ds, sk, rfl, ht, hz, hsc, hb10⟩
  have HT := hide (And.intro ht hz)
  have hs10 := hb10.size
  have HY10 := hide (on_bs HY9.out hb10)
  have HR10 : Hid (Row w10 w8.heap.size (b ++ List.replicate 8 201)) := HR9.out.below hb10 hs9
  have HB10 := hide (HB9.out.trans (hb10.mono (by omega)))
  have HK10 := hide (HK9.out.later hb10)
  obtain ⟨us, HS10, HV17⟩ := scanned_keep hsc
  clear hscan ht hz hsc hb10 HY9 HR9 HB9 HK9
  go_wp2_with fail
  have hscan := scan_any _ b w10 HY10.out (.inr ⟨_, _, _, rfl⟩) (by omega)
  refine hscan.mono ?_
  rintro e w11 ⟨v19, ds2, sk2, rfl, ht2, hz2, hsc2, hb11⟩
  obtain ⟨rfl, rfl⟩ := Rc.told_same _ _ _ _ _ ht2 hz2 HT.out.1 HT.out.2
  have hs11 := hb11.size
  have HR11 : Hid (Row w11 w8.heap.size (b ++ List.replicate 8 201)) := HR10.out.below hb11 (by omega)
  have HB11 := hide (HB10.out.trans (hb11.mono (by omega)))
  have HK11 := hide (HK10.out.later hb11)
  have HS11 := hide (HS10.out.later hb11)
  obtain ⟨ts, HU11, HV19⟩ := scanned_keep hsc2
  clear hscan ht2 hz2 hsc2 hb11 HY10 HR10 HB10 HK10 HS10
  go_wp2_with fail
  have hstill := still_row w8.heap.size (.slice ao b.length c) b w11 (by omega) HR11.out (H0.out.below HB11.out (Nat.le_of_eq HBB.out.symm)) (fun h g' e => by have := HVB.out h g' e; have := HB2'.out; omega)
  refine hstill.mono ?_
  rintro e w12 ⟨rfl, hr12, hg12⟩
  have hs12 := hg12.size
  have hkeep12 : ∀ k, k < w11.heap.size → k ≠ w8.heap.size → w12.heap[k]? = w11.heap[k]? := fun k hk hne => hg12.block k hk (fun e => hne (Option.some.inj e))
  have HB12 := hide (HB11.out.grown hg12 (by omega) (fun k e => by cases e; exact hBw8))
  have HK12 : Hid (Kz w12 B 4 K1 _) := HK11.out.frame hs12 (fun k e => hkeep12 k (HK11.out.lt k e).2 (fun e' => by subst e'; exact HNK.out e))
  have HS12 := hide (HS11.out.step hs12 (fun k h => hkeep12 k (by have := h.2; omega) (by have := h.1; omega)))
  have HU12 := hide (HU11.out.step hs12 (fun k h => hkeep12 k (by have := h.2; omega) (by have := h.1; omega)))
  have hy12 : Bs w12 (.slice (some ⟨w8.heap.size, 0, none⟩) b.length (b.length + 8)) (List.replicate b.length 77) := by
    have := hr12.bs (n := b.length) (c := b.length + 8) (by simp) (by omega) (by unfold maxLen; omega)
    rwa [List.take_replicate, Nat.min_eq_left (by omega)] at this
  have HY12 := hide hy12
  clear hstill hr12 hg12 hkeep12 hy12 HR11 HB11 HK11 HS11 HU11
  go_wp2_with fail
  have hscan := scan_any _ _ w12 HY12.out (.inr ⟨_, _, _, rfl⟩) (by simp; omega)
  refine hscan.mono ?_
  rintro e w13 ⟨v22, ds7, sk7, rfl, ht7, hz7, hsc7, hb13⟩
  obtain ⟨rfl, rfl⟩ : ds7 = [] ∧ sk7 = 0 := by
    cases ds7 with
    | nil => exact ⟨rfl, ht7⟩
    | cons d r => exact absurd (by rw [get_sevens]) ht7.1
  obtain ⟨ao22, c22, rfl⟩ : ∃ ao c, v22 = .slice ao 0 c := by
    obtain ⟨_, h, _⟩ := hsc7
    exact own_len h
  have hs13 := hb13.size
  have HB13 := hide (HB12.out.trans (hb13.mono (by omega)))
  have HK13 := hide (HK12.out.later hb13)
  have HS13 := hide (HS12.out.later hb13)
  have HU13 := hide (HU12.out.later hb13)
  clear hscan ht7 hz7 hsc7 hb13 HY12 HB12 HK12 HS12 HU12
  go_wp2_with fail
  have hscan := refscan_any _ b w13 (H0.out.below HB13.out (Nat.le_of_eq HBB.out.symm)) HN.out (by omega)
  refine hscan.mono ?_
  rintro e w14 ⟨va, ds3, sk3, rfl, ht3, hz3, hls, hb14⟩
  obtain ⟨rfl, rfl⟩ := Rc.told_same _ _ _ _ _ ht3 hz3 HT.out.1 HT.out.2
  have hs14 := hb14.size
  have HB14 := hide (HB13.out.trans (hb14.mono (by omega)))
  have HK14 := hide (HK13.out.later hb14)
  have HS14 := hide (HS13.out.later hb14)
  have HU14 := hide (HU13.out.later hb14)
  have HL14 := hide hls
  obtain ⟨aoa, ca, rfl⟩ : ∃ ao c, va = .slice ao ds3.length c := by
    obtain ⟨_, h, _⟩ := hls
    exact own_len h
  obtain ⟨ao17, c17, rfl⟩ : ∃ ao c, v17 = .slice ao ds3.length c := by
    have h := HS14.out.here.1
    exact own_len h
  obtain ⟨ao19, c19, rfl⟩ : ∃ ao c, v19 = .slice ao ds3.length c := by
    have h := HU14.out.here.1
    exact own_len h
  clear hscan ht3 hz3 hls hb14 HB13 HK13 HS13 HU13
  go_upto_block 0 with fail
  obtain ⟨w15, hw15⟩ : ∃ x, x = w14.alloc (.cells #[.slice aoa ds3.length ca] 34) := ⟨_, rfl⟩
  have hal : Below w14.heap.size w14 w15 := by rw [hw15]; exact (Below.refl _ w14).alloc (Nat.le_refl _) _
  have hbox : w15.heap[w14.heap.size]? = some (.cells #[.slice aoa ds3.length ca] 34 (0, 0)) := by rw [hw15]; exact heap_alloc_new w14 _
  have hs15 : w15.heap.size = w14.heap.size + 1 := by rw [hw15]; simp
  rw [← hw15]
  have HBOX := hide hbox
  have HB15 := hide (HB14.out.trans (hal.mono (by omega)))
  have HK15 := hide (HK14.out.later hal)
  have HS15 := hide (HS14.out.later hal)
  have HU15 := hide (HU14.out.later hal)
  have HL15 := hide (HL14.out.later hal)
  obtain ⟨aB, haB⟩ : ∃ x, x = w14.heap.size := ⟨_, rfl⟩
  rw [← haB] at HBOX ⊢
  have HAB := hide haB
  clear haB
  clear hw15 hal hbox HB14 HK14 HS14 HU14 HL14
  have hBB := HBB.out
  subst hBB
  have hal : Keeps (Iv w13.heap.size w15.heap.size) w15 (Al aB (.slice aoa ds3.length ca) ds3) := ⟨fun k e => e.2, fun V _ hv => ⟨(hv aB ⟨by have := HAB.out; omega, by have := HAB.out; omega⟩).trans HBOX.out, listed_low (listed_on HL15.out (fun k h1 h2 => hv k ⟨h1, h2⟩)) (Nat.zero_le _)⟩⟩
  have hn6 : ds3.length ≤ 1000000 := by have := HT.out.1.count; have := HT.out.1.le; omega
  have hdl : ∀ d ∈ ds3, d.length ≤ 100000000 := fun d hd => by have := told_lens ds3 b _ HT.out.1 d hd; omega
  rename_i Kn hKn
  refine then_mono (c := blk19) (K := Goes 20 w) (Q := QR w) ?_ (fun a' w' h' => hKn a' w' h')
  refine mid19b (wA := wA) (stop := stop) (K := K1) (Za := Iv w13.heap.size w15.heap.size) (us := us) (ts := ts) (p1 := w9.heap.size) (p2 := w10.heap.size) (p3 := w13.heap.size) (q := w15.heap.size) HA.out HB15.out HK15.out (by omega) HT.out.1 HT.out.2 hl H.out hn6 hdl hal (pieces_low HS15.out.here.2 (by omega)) (pieces_low HU15.out.here.2 (by omega)) (own_low HS15.out.here.1 (by omega)) (own_low HU15.out.here.1 (by omega)) (by omega) (by omega) (by omega) (by omega) (fun k e => by have := HKlt.out k e; omega) HV17.out.1 HV17.out.2.1 (fun k e => by have := HV19.out.1 k e; omega) (fun k e => by have := HV19.out.2.1 k e; omega) (fun k e => e) HV17.out.2.2 HV19.out.2.2 rfl rfl rfl rfl rfl rfl rfl rfl rfl rfl
end Go.Proofs.Ytkohlhnkaklnpaa
