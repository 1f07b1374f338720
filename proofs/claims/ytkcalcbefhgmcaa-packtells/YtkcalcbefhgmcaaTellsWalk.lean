import Derived.Test.YtkcalcbefhgmcaaShown
import Derived.Test.YtkcalcbefhgmcaaStill
import Derived.Test.YtkcalcbefhgmcaaBurst
namespace Go.Proofs.Ytkcalcbefhgmcaa
open Go.RowKit

/-- Where the burst begins. -/
def place (n : Nat) (at' : Int) : Nat := ((if at' < 0 then -(at' + 1) else at') % ((n : Int) - 3)).toNat
theorem place_lt (n : Nat) (at' : Int) (h : 4 ≤ n) : place n at' + 4 ≤ n := by
  unfold place
  have := Int.emod_lt_of_pos (if at' < 0 then -(at' + 1) else at') (show (0 : Int) < (n : Int) - 3 by omega)
  have h0 := Int.emod_nonneg (if at' < 0 then -(at' + 1) else at') (show ((n : Int) - 3) ≠ 0 by omega)
  omega
theorem xor_byte (x : UInt8) (q k : Nat) : bits .xor .u8 (x.toNat : Int) ((q : Int) / 2 ^ (8 * k) % 256) = ((x ^^^ Crc.qb q k).toNat : Int) := by
  have e : ((q : Int) / 2 ^ (8 * k) % 256) = (((Crc.qb q k).toNat : Nat) : Int) := by
    rw [Crc.qb_toNat, Int.natCast_emod, Int.natCast_ediv, Int.natCast_pow]
    rfl
  rw [e, u8_xor_nat _ _ x.toNat_lt (Crc.qb q k).toNat_lt, UInt8.toNat_xor]

set_option maxHeartbeats 4000000 in
set_option maxRecDepth 100000 in
theorem tells_few (v : Value) (l : List UInt8) (at' : Int) (q : Nat) (w : World) (h : Bs w v l) (hq : q < 4294967296) (h4 : l.length < 4 ∨ q = 0) :
    Calls Try.prog 7 #[v, .int .i64 at', .int .u32 q] w fun e w' => e = .returned (.bool true) ∧ Below w.heap.size w w' := by
  obtain ⟨ao, c, rfl, hlc, hm, _⟩ := h
  unfold maxLen at hm
  have hsh := shown_any w
  rcases (show l.length < 4 ∨ (¬ l.length < 4 ∧ q = 0) by omega) with a | ⟨a, b⟩
  · have z1 : (l.length : Int) < 4 := by omega
    go_enter Try.func7, Try.ntmps7
    go_wp2_with fail
    refine hsh.mono ?_
    rintro e w1 ⟨rfl, hb1⟩
    go_wp2
    go_ret
    exact ⟨rfl, hb1⟩
  · have z1 : ¬ (l.length : Int) < 4 := by omega
    have z2 : ((q : Int) == 0) = true := by simp [b]
    clear b h4
    go_enter Try.func7, Try.ntmps7
    go_wp2_with fail
    refine hsh.mono ?_
    rintro e w1 ⟨rfl, hb1⟩
    go_wp2
    go_ret
    exact ⟨rfl, hb1⟩

set_option maxHeartbeats 4000000 in
set_option maxRecDepth 100000 in
theorem tells_many (v : Value) (l : List UInt8) (at' : Int) (q : Nat) (w : World) (h : Bs w v l) (hq : q < 4294967296) (h0 : -9223372036854775808 ≤ at') (h1 : at' ≤ 9223372036854775807) (hl : l.length ≤ 140737488351232) (h4 : 4 ≤ l.length) (hq0 : q ≠ 0) :
    Calls Try.prog 7 #[v, .int .i64 at', .int .u32 q] w fun e w' => e = .returned (.bool true) ∧ Below w.heap.size w w' := by
  have H := hide h
  obtain ⟨ao, c, rfl, hlc, hm, _⟩ := h
  unfold maxLen at hm
  have hsh := shown_any w
  have z1 : ¬ (l.length : Int) < 4 := by omega
  have z2 : ((q : Int) == 0) = false := by simp [hq0]
  have hp := place_lt l.length at' h4
  have HP := hide (show place l.length at' = ((if at' < 0 then -(at' + 1) else at') % ((l.length : Int) - 3)).toNat from rfl)
  generalize place l.length at' = p at *
  obtain ⟨A, f, C, hx, hAl, hst⟩ := Crc.split4 l p hp
  clear hx
  have HAL := hide hAl
  have HST := hide (hst q)
  clear hAl hst
  have z3 : decide ((l.length : Int) < 4) = false := by simp; omega
  rcases (show at' < 0 ∨ ¬ at' < 0 by omega) with a | a
  · rw [if_pos a] at HP
    have hpm : -(at' + 1).tmod ((l.length : Int) - 3) = (p : Int) := by
      rw [HP.out, ← Int.neg_tmod, Int.tmod_eq_emod_of_nonneg (by omega)]
      have := Int.emod_nonneg (-(at' + 1)) (show ((l.length : Int) - 3) ≠ 0 by omega)
      omega
    go_enter Try.func7, Try.ntmps7
    go_wp2_with fail
    refine hsh.mono ?_
    rintro e w1 ⟨rfl, hb1⟩
    have hle := lent_any _ l w1 (H.out.below hb1 (Nat.le_refl _)) hl
    have B1 := hide hb1
    have hz1' := hb1.size
    clear hsh hb1
    go_wp2_with fail
    refine hle.mono ?_
    rintro e w2 ⟨rfl, hrow, hb2⟩
    have B2 := hide (below_more B1.out hz1' hb2)
    have g2 := hrow.lt
    have hsu := sum_any _ _ w2 (hrow.bs (n := l.length) (c := l.length + 80) (by simp) (by omega) (by simp [maxLen]; omega))
    rw [List.take_left] at hsu
    have HR := hide (show Row w2 w1.heap.size (Crc.st A f C q 0 ++ List.replicate 80 201) by rw [HST.out]; exact hrow)
    have HBS := hide ((H.out.below B1.out (Nat.le_refl _)).below hb2 (Nat.le_refl _))
    clear hle hrow hb2 hpm
    go_wp2_with fail
    refine hsu.mono ?_
    rintro e w3 ⟨rfl, rfl⟩
    clear hsu
    go_wp2
    go_loopw [10] (fun vi wr => ∃ k : Nat, k ≤ 4 ∧ vi = .int .i64 k ∧ Row wr w1.heap.size (Crc.st A f C q k ++ List.replicate 80 201) ∧ Below w1.heap.size w3 wr) (fun vi _ => 4 - (intOf vi).toNat)
    case atStart => exact ⟨0, Nat.zero_le _, rfl, HR.out, Below.refl _ _⟩
    case round =>
      obtain ⟨k, hk, rfl, hr, hb⟩ := hrel
      by_cases hlt : k < 4
      · have hcl := hr.cell (A.length + k) (by rw [List.length_append, Crc.st_length]; omega)
        rw [Crc.st_at A f C q k hlt] at hcl
        have hfz := hr.frozen (A.length + k)
        rw [HAL.out] at hcl hfz
        have hxb := xor_byte (f k) q k
        have h256 := (f k).toNat_lt
        have HRr := hide hr
        have HB := hide hb
        have e1 : (p : Int) + k < l.length + 80 := by omega
        have d4 : decide ((k : Int) < 4) = true := by simp; omega
        clear hr hb
        go_wp2
        go_region
        all_goals go_wp2
        refine ⟨⟨k + 1, by omega, by go_num, ?_, (HB.out.setCell (p := ⟨w1.heap.size, p + k, none⟩) (Nat.le_refl _) _).drew⟩, by simp [intOf]; omega⟩
        have := HRr.out.set (A.length + k) (f k ^^^ Crc.qb q k)
        rw [Crc.st_set A f C q k hlt, UInt8.toNat_xor, HAL.out] at this
        exact this
      · obtain rfl : k = 4 := by omega
        have hll : (Crc.st A f C q 4).length = l.length := by rw [← HST.out, Crc.st_length, Crc.st_length]
        have hsu := sum_any _ _ wr (hr.bs (n := l.length) (c := l.length + 80) (by rw [List.length_append]; omega) (by omega) (by simp [maxLen]; omega))
        rw [List.take_left' hll] at hsu
        obtain ⟨f', hf0, hf4⟩ := Crc.st_back A f C q
        have HNE := hide (show Crc.crc l ≠ Crc.crc (Crc.st A f C q 4) by rw [← HST.out]; exact fun e => Crc.burst A f C q hq hq0 e.symm)
        have HR4 := hide (show Row wr w1.heap.size (Crc.st A f' C q 0 ++ List.replicate 80 201) by rw [hf0]; exact hr)
        have HE4 := hide (hf4.trans HST.out)
        have HB4 := hide hb
        have d4 : decide ((4 : Int) < 4) = false := by decide
        clear hr hb hf0 hf4 hll
        generalize Crc.crc (Crc.st A f C q 4) = two at *
        go_wp2_with fail
        refine hsu.mono ?_
        rintro e w4 ⟨rfl, rfl⟩
        clear hsu
        go_wp2
        go_loopw [12] (fun vi wr => ∃ k : Nat, k ≤ 4 ∧ vi = .int .i64 k ∧ Row wr w1.heap.size (Crc.st A f' C q k ++ List.replicate 80 201) ∧ Below w1.heap.size w3 wr) (fun vi _ => 4 - (intOf vi).toNat)
        case atStart => exact ⟨0, Nat.zero_le _, rfl, HR4.out, HB4.out⟩
        case round =>
          obtain ⟨k, hk, rfl, hr, hb⟩ := hrel
          by_cases hlt : k < 4
          · have hcl := hr.cell (A.length + k) (by rw [List.length_append, Crc.st_length]; omega)
            rw [Crc.st_at A f' C q k hlt] at hcl
            have hfz := hr.frozen (A.length + k)
            rw [HAL.out] at hcl hfz
            have hxb := xor_byte (f' k) q k
            have h256 := (f' k).toNat_lt
            have HRr := hide hr
            have HB := hide hb
            have e1 : (p : Int) + k < l.length + 80 := by omega
            have d4 : decide ((k : Int) < 4) = true := by simp; omega
            clear hr hb
            go_wp2
            go_region
            all_goals go_wp2
            refine ⟨⟨k + 1, by omega, by go_num, ?_, (HB.out.setCell (p := ⟨w1.heap.size, p + k, none⟩) (Nat.le_refl _) _).drew⟩, by simp [intOf]; omega⟩
            have := HRr.out.set (A.length + k) (f' k ^^^ Crc.qb q k)
            rw [Crc.st_set A f' C q k hlt, UInt8.toNat_xor, HAL.out] at this
            exact this
          · obtain rfl : k = 4 := by omega
            rw [HE4.out] at hr
            have hbb := B2.out.1.trans (hb.mono hz1')
            have hst := still_row w1.heap.size _ l wr hl hr (H.out.below hbb (Nat.le_refl _))
            have HBB := hide hbb
            have z5 : ((Crc.crc l : Int) != (two : Int)) = true := by rw [bne_iff_ne]; intro e; exact HNE.out (by omega)
            clear hr hb hbb
            generalize Crc.crc l = one at *
            go_wp2_with fail
            refine hst.mono ?_
            rintro e w5 ⟨rfl, hd⟩
            have HD := hide hd
            clear hst hd
            go_wp2
            go_ret
            exact ⟨rfl, HBB.out.trans (below_drew HD.out)⟩
  · rw [if_neg a] at HP
    have ha0 : 0 ≤ at' := by omega
    have hpm0 : at' % ((l.length : Int) - 3) = (p : Int) := by
      rw [HP.out]
      have := Int.emod_nonneg at' (show ((l.length : Int) - 3) ≠ 0 by omega)
      omega
    have hpm : at'.tmod ((l.length : Int) - 3) = (p : Int) := by rw [Int.tmod_eq_emod_of_nonneg ha0]; exact hpm0
    go_enter Try.func7, Try.ntmps7
    go_wp2_with fail
    refine hsh.mono ?_
    rintro e w1 ⟨rfl, hb1⟩
    have hle := lent_any _ l w1 (H.out.below hb1 (Nat.le_refl _)) hl
    have B1 := hide hb1
    have hz1' := hb1.size
    clear hsh hb1
    go_wp2_with fail
    refine hle.mono ?_
    rintro e w2 ⟨rfl, hrow, hb2⟩
    have B2 := hide (below_more B1.out hz1' hb2)
    have g2 := hrow.lt
    have hsu := sum_any _ _ w2 (hrow.bs (n := l.length) (c := l.length + 80) (by simp) (by omega) (by simp [maxLen]; omega))
    rw [List.take_left] at hsu
    have HR := hide (show Row w2 w1.heap.size (Crc.st A f C q 0 ++ List.replicate 80 201) by rw [HST.out]; exact hrow)
    have HBS := hide ((H.out.below B1.out (Nat.le_refl _)).below hb2 (Nat.le_refl _))
    clear hle hrow hb2 hpm
    go_wp2_with fail
    refine hsu.mono ?_
    rintro e w3 ⟨rfl, rfl⟩
    clear hsu
    go_wp2
    go_loopw [10] (fun vi wr => ∃ k : Nat, k ≤ 4 ∧ vi = .int .i64 k ∧ Row wr w1.heap.size (Crc.st A f C q k ++ List.replicate 80 201) ∧ Below w1.heap.size w3 wr) (fun vi _ => 4 - (intOf vi).toNat)
    case atStart => exact ⟨0, Nat.zero_le _, rfl, HR.out, Below.refl _ _⟩
    case round =>
      obtain ⟨k, hk, rfl, hr, hb⟩ := hrel
      by_cases hlt : k < 4
      · have hcl := hr.cell (A.length + k) (by rw [List.length_append, Crc.st_length]; omega)
        rw [Crc.st_at A f C q k hlt] at hcl
        have hfz := hr.frozen (A.length + k)
        rw [HAL.out] at hcl hfz
        have hxb := xor_byte (f k) q k
        have h256 := (f k).toNat_lt
        have HRr := hide hr
        have HB := hide hb
        have e1 : (p : Int) + k < l.length + 80 := by omega
        have d4 : decide ((k : Int) < 4) = true := by simp; omega
        clear hr hb
        go_wp2
        go_region
        all_goals go_wp2
        refine ⟨⟨k + 1, by omega, by go_num, ?_, (HB.out.setCell (p := ⟨w1.heap.size, p + k, none⟩) (Nat.le_refl _) _).drew⟩, by simp [intOf]; omega⟩
        have := HRr.out.set (A.length + k) (f k ^^^ Crc.qb q k)
        rw [Crc.st_set A f C q k hlt, UInt8.toNat_xor, HAL.out] at this
        exact this
      · obtain rfl : k = 4 := by omega
        have hll : (Crc.st A f C q 4).length = l.length := by rw [← HST.out, Crc.st_length, Crc.st_length]
        have hsu := sum_any _ _ wr (hr.bs (n := l.length) (c := l.length + 80) (by rw [List.length_append]; omega) (by omega) (by simp [maxLen]; omega))
        rw [List.take_left' hll] at hsu
        obtain ⟨f', hf0, hf4⟩ := Crc.st_back A f C q
        have HNE := hide (show Crc.crc l ≠ Crc.crc (Crc.st A f C q 4) by rw [← HST.out]; exact fun e => Crc.burst A f C q hq hq0 e.symm)
        have HR4 := hide (show Row wr w1.heap.size (Crc.st A f' C q 0 ++ List.replicate 80 201) by rw [hf0]; exact hr)
        have HE4 := hide (hf4.trans HST.out)
        have HB4 := hide hb
        have d4 : decide ((4 : Int) < 4) = false := by decide
        clear hr hb hf0 hf4 hll
        generalize Crc.crc (Crc.st A f C q 4) = two at *
        go_wp2_with fail
        refine hsu.mono ?_
        rintro e w4 ⟨rfl, rfl⟩
        clear hsu
        go_wp2
        go_loopw [12] (fun vi wr => ∃ k : Nat, k ≤ 4 ∧ vi = .int .i64 k ∧ Row wr w1.heap.size (Crc.st A f' C q k ++ List.replicate 80 201) ∧ Below w1.heap.size w3 wr) (fun vi _ => 4 - (intOf vi).toNat)
        case atStart => exact ⟨0, Nat.zero_le _, rfl, HR4.out, HB4.out⟩
        case round =>
          obtain ⟨k, hk, rfl, hr, hb⟩ := hrel
          by_cases hlt : k < 4
          · have hcl := hr.cell (A.length + k) (by rw [List.length_append, Crc.st_length]; omega)
            rw [Crc.st_at A f' C q k hlt] at hcl
            have hfz := hr.frozen (A.length + k)
            rw [HAL.out] at hcl hfz
            have hxb := xor_byte (f' k) q k
            have h256 := (f' k).toNat_lt
            have HRr := hide hr
            have HB := hide hb
            have e1 : (p : Int) + k < l.length + 80 := by omega
            have d4 : decide ((k : Int) < 4) = true := by simp; omega
            clear hr hb
            go_wp2
            go_region
            all_goals go_wp2
            refine ⟨⟨k + 1, by omega, by go_num, ?_, (HB.out.setCell (p := ⟨w1.heap.size, p + k, none⟩) (Nat.le_refl _) _).drew⟩, by simp [intOf]; omega⟩
            have := HRr.out.set (A.length + k) (f' k ^^^ Crc.qb q k)
            rw [Crc.st_set A f' C q k hlt, UInt8.toNat_xor, HAL.out] at this
            exact this
          · obtain rfl : k = 4 := by omega
            rw [HE4.out] at hr
            have hbb := B2.out.1.trans (hb.mono hz1')
            have hst := still_row w1.heap.size _ l wr hl hr (H.out.below hbb (Nat.le_refl _))
            have HBB := hide hbb
            have z5 : ((Crc.crc l : Int) != (two : Int)) = true := by rw [bne_iff_ne]; intro e; exact HNE.out (by omega)
            clear hr hb hbb
            generalize Crc.crc l = one at *
            go_wp2_with fail
            refine hst.mono ?_
            rintro e w5 ⟨rfl, hd⟩
            have HD := hide hd
            clear hst hd
            go_wp2
            go_ret
            exact ⟨rfl, HBB.out.trans (below_drew HD.out)⟩

theorem tells_walk (v : Value) (l : List UInt8) (at' : Int) (q : Nat) (w : World) (h : Bs w v l) (hq : q < 4294967296) (h0 : -9223372036854775808 ≤ at') (h1 : at' ≤ 9223372036854775807) (hl : l.length ≤ 140737488351232) :
    Calls Try.prog 7 #[v, .int .i64 at', .int .u32 q] w fun e w' => e = .returned (.bool true) ∧ Below w.heap.size w w' := by
  by_cases hc : l.length < 4 ∨ q = 0
  · exact tells_few v l at' q w h hq hc
  · exact tells_many v l at' q w h hq h0 h1 hl (by omega) (by omega)
end Go.Proofs.Ytkcalcbefhgmcaa
