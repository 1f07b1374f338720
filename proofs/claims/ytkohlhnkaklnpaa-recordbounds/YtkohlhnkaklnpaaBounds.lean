/-
  RecordBounds' walk.
-/
import Derived.Test.YtkohlhnkaklnpaaShown
import Derived.Test.YtkohlhnkaklnpaaThere
import Derived.Test.YtkohlhnkaklnpaaPick
import Derived.Test.YtkohlhnkaklnpaaRsum
namespace Go.Proofs.Ytkohlhnkaklnpaa
open Go.RowKit

/-- Bytes that are written over from the front. -/
def over (f : UInt8) (n k : Nat) : List UInt8 := List.replicate k f ++ List.replicate (n - k) 0
theorem over_length (f : UInt8) {n k : Nat} (h : k ≤ n) : (over f n k).length = n := by simp [over]; omega
theorem over_set (f : UInt8) {n k : Nat} (h : k < n) : (over f n k).set k f = over f n (k + 1) := by
  unfold over
  rw [List.set_append_right _ _ (by simp), List.length_replicate, Nat.sub_self, show n - k = (n - (k + 1)) + 1 by omega, List.replicate_succ, List.set_cons_zero, List.replicate_succ', List.append_assoc]
  rfl
theorem over_end (f : UInt8) (n : Nat) : over f n n = List.replicate n f := by simp [over]
theorem over_zero (f : UInt8) (n : Nat) : over f n 0 = List.replicate n 0 := by simp [over]
theorem uv_three {n : Nat} (h0 : 16384 ≤ n) (h1 : n < 2097152) : (Lib.uvarint n).length = 3 := by
  rw [Lib.uvarint_big (by omega), Lib.uvarint_big (by omega), Lib.uvarint_small (by omega)]
  rfl

theorem below_drewN (w : World) : ∀ n, Below w.heap.size w (w.drewN n)
  | 0 => Below.refl _ _
  | n + 1 => by
    have := below_drewN w n
    simpa using this.drew
theorem four_sum {c : Nat} {x0 x1 x2 x3 : UInt8} (h : Rc.four c = [x0, x1, x2, x3]) (hc : c < 4294967296) : x0.toNat + x1.toNat * 256 + x2.toNat * 65536 + x3.toNat * 16777216 = c := by
  simp only [Rc.four, List.range_succ, List.range_zero, List.nil_append, List.cons_append, List.map_cons, List.map_nil, List.cons.injEq, and_true] at h
  obtain ⟨rfl, rfl, rfl, rfl⟩ := h
  simp [UInt8.toNat_ofNat']
  omega

set_option maxHeartbeats 8000000 in
set_option maxRecDepth 100000 in
theorem bounds_walk (n : Int) (f : UInt8) (w : World) (h0 : -9223372036854775808 ≤ n) (h1 : n ≤ 9223372036854775807) :
    Calls Try.prog 7 #[.int .i64 n, .int .u8 f.toNat] w fun e w' => e = .returned (.bool true) ∧ Below w.heap.size w w' := by
  obtain ⟨i0, hi, hz0, hz1, hz2⟩ := info_parts info5
  have hf := f.toNat_lt
  go_enter Try.func7, Try.ntmps7
  go_wp2_with fail
  refine (shown_any w).mono ?_
  rintro e w1 ⟨rfl, hb1⟩
  go_wp2_with fail
  refine (pick_any n 4 w1 h0 h1 (by omega) (by omega)).mono ?_
  rintro e w' ⟨⟨p, hp, rfl⟩, rfl⟩
  go_wp2_with (at_make; refine wpList_make_full _ rfl _ _ 22 rfl w'.heap.size 5 i0 (.int .u8 0) 1 Try.underlying22 hi hz0 hz1 .i64 .i64 _ _ (99998 + p) rfl rfl ?c1 ?c2 ?c3 ?c4 ?c5 ?_)
  case c1 => omega
  case c2 => omega
  case c3 => rw [hz2]; omega
  case c4 => unfold maxLen; omega
  case c5 => exact Nat.le_refl _
  intro w2 hown hgrow
  rw [made_bytes] at hown
  have hb2 : Below w'.heap.size w' w2 := (Below.refl _ _).grown hgrow (Nat.le_refl _) (by intro k hk; cases hk)
  have hr2 : Row w2 w'.heap.size (over f (99998 + p) 0) := by rw [over_zero]; exact (own_block hown).1
  have HR2 := hide hr2
  clear hown hgrow hr2
  go_wp2_with fail
  go_loopw [8] (fun i wr => ∃ k : Nat, k ≤ 99998 + p ∧ i = .int .i64 k ∧ Row wr w'.heap.size (over f (99998 + p) k) ∧ Below w'.heap.size w' wr) (fun i _ => 99998 + p - (intOf i).toNat)
  case atStart => exact ⟨0, Nat.zero_le _, rfl, HR2.out, hb2⟩
  case round =>
    obtain ⟨k, hk, rfl, hr, hb⟩ := hrel
    by_cases hlt : k < 99998 + p
    · have e1 : (k : Int) < 99998 + (p : Int) := by omega
      have hfz := hr.frozen k
      have hcl := hr.cell k (by rw [over_length _ hk]; exact hlt)
      have HR := hide hr
      clear hr
      go_wp2_with fail
      refine ⟨⟨k + 1, by omega, by go_num, ?_, hb.setCell (Nat.le_refl _) _⟩, by simp [intOf]; omega⟩
      have := HR.out.set k f
      rw [over_set f hlt] at this
      exact this
    · have e1 : ¬ (k : Int) < 99998 + (p : Int) := by omega
      obtain rfl : k = 99998 + p := by omega
      rw [over_end] at hr
      have hdl : (List.replicate (99998 + p) f).length = 99998 + p := List.length_replicate
      have hbs := lit_bs hr (by rw [hdl]; unfold maxLen; omega)
      rw [hdl] at hbs
      have hbw : Below w.heap.size w wr := hb1.trans (hb.mono hb1.size)
      have hnone := fun W => rput_bad (.slice none 0 0) (.slice none 0 0) [] W (Bs.nil _) (fun h => h.1 rfl)
      have HNONE := hide hnone
      have HB := hide hbw
      clear hbw hb hr hnone HR2 hb2 hb1
      generalize hD : List.replicate (99998 + p) f = d at *
      clear hD
      by_cases hp3 : p = 3
      · subst hp3
        have hput := rput_bad (.slice none 0 0) _ d wr hbs (fun h => by have := h.2; omega)
        have HP := hide hput
        clear hput hbs
        go_wp2_with fail
        refine HP.out.mono ?_
        rintro e w2 ⟨rfl, rfl⟩
        go_wp2_with fail
        refine (HNONE.out _).mono ?_
        rintro e w3 ⟨rfl, rfl⟩
        go_wp2_with fail
        go_ret
        exact ⟨rfl, HB.out⟩
      · have hput := rput_good (.slice none 0 0) _ [] d wr (Bs.nil _) (.inl rfl) hbs (.inr ⟨_, _, _, rfl⟩) ⟨fun e => by rw [e] at hdl; simp at hdl; omega, by omega⟩ (by simp)
        have HP := hide hput
        clear hput
        go_wp2_with fail
        refine HP.out.mono ?_
        rintro e w2 ⟨v2, rfl, ho2, hb2⟩
        rw [List.nil_append] at ho2
        have hfit : Rc.fits d := ⟨fun e => by rw [e] at hdl; simp at hdl; omega, by omega⟩
        have hml : (Rc.made d).length = 99998 + p + 8 := by
          rw [Rc.made_length, hdl, uv_three (by omega) (by omega)]
          omega
        rw [hml] at ho2
        obtain ⟨g, c, rfl, hc1, hc2, _, hcell⟩ := own_some ho2 (fun e => by rw [e] at hml; simp at hml)
        go_wp2_with fail
        refine (HNONE.out _).mono ?_
        rintro e w3 ⟨rfl, rfl⟩
        have hget := rget_any _ _ w3 (own_bs ho2)
        have eg := Rc.get_made hfit []
        rw [List.append_nil] at eg
        rw [eg, hml] at hget
        have hle : (99998 : Int) + (p : Int) ≤ 100000 := by omega
        have hcm : c ≤ 9223372036854775807 := by unfold maxLen at hc2; omega
        have HGET := hide hget
        have HD := hide (hbs.below hb2 (Nat.le_refl _))
        have HB2 := hide (HB.out.trans (hb2.mono HB.out.size))
        have hhead : (Rc.made d).take 4 = Rc.head (99998 + p) := by
          have := Rc.head_length (99998 + p)
          rw [uv_three (by omega) (by omega)] at this
          rw [Rc.made, hdl, List.take_left' (by omega)]
        have hb4 : Bs w3 (.slice (some ⟨g, 0, none⟩) 4 c) (Rc.head (99998 + p)) := by
          have h4 : (Rc.head (99998 + p)).length = 4 := by rw [Rc.head_length, uv_three (by omega) (by omega)]
          have := Bs.row (w := w3) (g := g) (o := 0) (c := c) (l := Rc.head (99998 + p)) (by omega) hc2 (fun j hj => by
            rw [hcell j (by omega)]
            congr 4
            rw [← List.getElem_take (j := 4) (h := by simp; omega)]
            simp only [hhead])
          rwa [h4] at this
        obtain ⟨x0, x1, x2, x3, e4⟩ : ∃ x0 x1 x2 x3 : UInt8, Rc.sum4 (Rc.head (99998 + p) ++ d) = [x0, x1, x2, x3] := ⟨_, _, _, _, rfl⟩
        have hsum : ∀ i (h : i < 4), w3.cell? ⟨g, 4 + i, none⟩ = some (.int .u8 ([x0, x1, x2, x3][i]).toNat) := fun i h => by
          have h4 : (Rc.head (99998 + p)).length = 4 := by rw [Rc.head_length, uv_three (by omega) (by omega)]
          have := hcell (4 + i) (by omega)
          rw [Nat.zero_add] at this
          rw [this]
          congr 4
          simp only [Rc.made, hdl, e4]
          rw [List.getElem_append_right (by omega)]
          simp only [h4, Nat.add_sub_cancel_left]
          rw [List.getElem_append_left (by simpa using h)]
        have k0 : w3.cell? ⟨g, 4, none⟩ = some (.int .u8 x0.toNat) := hsum 0 (by omega)
        have k1 : w3.cell? ⟨g, 5, none⟩ = some (.int .u8 x1.toNat) := hsum 1 (by omega)
        have k2 : w3.cell? ⟨g, 6, none⟩ = some (.int .u8 x2.toNat) := hsum 2 (by omega)
        have k3 : w3.cell? ⟨g, 7, none⟩ = some (.int .u8 x3.toNat) := hsum 3 (by omega)
        have y0 := x0.toNat_lt
        have y1 := x1.toNat_lt
        have y2 := x2.toNat_lt
        have y3 := x3.toNat_lt
        have HX := hide (four_sum e4 (Crc.crc_lt _))
        have hglt := World.block_lt_of_cell? w3 _ k0
        have hc8 : (99998 : Int) + (p : Int) + 8 ≤ (c : Int) := by omega
        have HK := hide (And.intro k0 (And.intro k1 (And.intro k2 k3)))
        clear k0 k1 k2 k3 hsum hcell hhead e4 hget eg hbs hb2 ho2 HB HP HNONE
        go_wp2_with fail
        refine HGET.out.mono ?_
        rintro e w4 ⟨v4, rfl, hp4, hb4'⟩
        have hb44 := hb4.below hb4' (Nat.le_refl _)
        have hd4 := HD.out.below hb4' (Nat.le_refl _)
        have hpd := hp4.bs
        have B4 := hide (HB2.out.trans (hb4'.mono HB2.out.size))
        have hs4 := hb4'.size
        have C4 := hide (And.intro ((hb4'.cell (p := ⟨g, 4, none⟩) hglt).trans HK.out.1) (And.intro ((hb4'.cell (p := ⟨g, 5, none⟩) hglt).trans HK.out.2.1) (And.intro ((hb4'.cell (p := ⟨g, 6, none⟩) hglt).trans HK.out.2.2.1) ((hb4'.cell (p := ⟨g, 7, none⟩) hglt).trans HK.out.2.2.2))))
        have ha : ∀ o, Below w4.heap.size w4 (w4.alloc o) := fun o => (Below.refl w4.heap.size w4).alloc (Nat.le_refl _) o
        have H44 := hide hb44
        have HD4 := hide hd4
        have HPD := hide hpd
        clear hb4 hb44 hd4 hpd hp4 hb4' HD HB2 HK HGET
        go_wp2_with (at_builtin; refine wpList_append_bs _ rfl _ _ rfl w4.heap.size _ 0 [] rfl (World.ownsRow_made w4 #[] 0 (Nat.le_refl _) (Nat.zero_le _) rfl) _ (Rc.head (99998 + p)) rfl (H44.out.below (ha _) (Nat.le_refl _)) (.inr ⟨_, _, _, rfl⟩) ?k1 ?k2 ?_)
        case k1 => rw [Rc.head_length, uv_three (by omega) (by omega)]; omega
        case k2 => simp
        intro v5 w5 ho5 hb5
        have hb45 : Below w4.heap.size w4 w5 := (ha _).trans hb5
        have hs5 := hb45.size
        have hd5 := HD4.out.below hb45 (Nat.le_refl _)
        go_wp2_with (at_builtin; refine wpList_append_bs _ rfl _ _ rfl w4.heap.size _ _ _ rfl ho5 _ d rfl hd5 (.inr ⟨_, _, _, rfl⟩) ?m1 ?m2 ?_)
        case m1 => rw [Rc.head_length, uv_three (by omega) (by omega), hdl]; omega
        case m2 => exact hs5
        intro v6 w6 ho6 hb6
        rw [← Lib.byteCells_append] at ho6
        have hb46 : Below w4.heap.size w4 w6 := hb45.trans hb6
        have hrs := rsum_any v6 _ w6 (own_bs ho6)
        have HRS := hide hrs
        have H46 := hide hb46
        clear hrs hb46 ho6 hb6 ho5 hb5 hb45 hd5 ha
        go_wp2_with fail
        refine HRS.out.mono ?_
        rintro e w7 ⟨rfl, rfl⟩
        have hg4 : g < w4.heap.size := by omega
        have k0 := (H46.out.cell (p := ⟨g, 4, none⟩) hg4).trans C4.out.1
        have k1 := (H46.out.cell (p := ⟨g, 5, none⟩) hg4).trans C4.out.2.1
        have k2 := (H46.out.cell (p := ⟨g, 6, none⟩) hg4).trans C4.out.2.2.1
        have k3 := (H46.out.cell (p := ⟨g, 7, none⟩) hg4).trans C4.out.2.2.2
        have hl8 : (7 : Int) < 99998 + (p : Int) + 8 := by omega
        have hl7 : (6 : Int) < 99998 + (p : Int) + 8 := by omega
        have hl6 : (5 : Int) < 99998 + (p : Int) + 8 := by omega
        have hl5 : (4 : Int) < 99998 + (p : Int) + 8 := by omega
        go_wp2_with fail
        go_quiet (fail)
        have hq7 : Below w7.heap.size w7 (w7.drewN nq) := below_drewN w7 nq
        have cv1 := conv_bs ((HPD.out.below H46.out (Nat.le_refl _)).below hq7 (Nat.le_refl _))
        have cv2 := conv_bs ((HD4.out.below H46.out (Nat.le_refl _)).below hq7 (Nat.le_refl _))
        have hsum : (((Crc.crc (Rc.head (99998 + p) ++ d) : Nat) : Int) == (x0.toNat : Int) + (x1.toNat : Int) * 256 + (x2.toNat : Int) * 65536 + (x3.toNat : Int) * 16777216) = true := by
          rw [beq_iff_eq, ← HX.out]
          omega
        have hB : Below w.heap.size w (w7.drewN nq) := (B4.out.trans (H46.out.mono B4.out.size)).trans (hq7.mono (Nat.le_trans B4.out.size H46.out.size))
        have HBB := hide hB
        clear hB hq7
        go_wp2_with fail
        go_ret
        exact ⟨rfl, HBB.out⟩
end Go.Proofs.Ytkohlhnkaklnpaa
