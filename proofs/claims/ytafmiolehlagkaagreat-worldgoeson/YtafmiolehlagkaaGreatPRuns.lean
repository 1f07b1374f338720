import Derived.Test.YtafmiolehlagkaaGreatPSize
namespace Go.Proofs.YtafmiolehlagkaaGreat.Pak
open Go.RowKit
set_option maxRecDepth 100000

theorem cells_below {B : Nat} {w w' : World} {g o : Nat} {zs : List Int} (h : Cells w g o zs) (hb : Below B w w') (hg : g < B) : Cells w' g o zs :=
  fun j hj => (hb.cell (p := ⟨g, o + j, none⟩) hg).trans (h j hj)
theorem below_drew {B : Nat} {w w' : World} (h : ∃ d, w' = w.drewN d) : Below B w w' := by
  obtain ⟨d, rfl⟩ := h
  exact ⟨rfl, rfl, rfl, Nat.le_refl _, fun _ _ => rfl⟩
theorem owns_drew {B e n size : Nat} {v : Value} {xs : List Value} {w w' : World} (h : w.ownsRow B e size v n xs) (hd : ∃ d, w' = w.drewN d) : w'.ownsRow B e size v n xs := by
  obtain ⟨d, rfl⟩ := hd
  exact h

theorem runs_owned {w : World} {B n : Nat} {v : Value} {xs : List Value} {U R : List UInt8} {m x : Nat}
    (h : w.ownsRow B 5 1 v (n + U.length + R.length + (Lib.uvarint m).length + (Lib.uvarint x).length) (xs ++ Lib.byteCells (U ++ R) ++ Lib.byteCells (Lib.uvarint m) ++ Lib.byteCells (Lib.uvarint x))) :
    w.ownsRow B 5 1 v (n + U.length + (R ++ (Lib.uvarint m ++ Lib.uvarint x)).length) (xs ++ Lib.byteCells (U ++ (R ++ (Lib.uvarint m ++ Lib.uvarint x)))) := by
  have e1 : n + U.length + (R ++ (Lib.uvarint m ++ Lib.uvarint x)).length = n + U.length + R.length + (Lib.uvarint m).length + (Lib.uvarint x).length := by
    simp only [List.length_append]; omega
  have e2 : xs ++ Lib.byteCells (U ++ (R ++ (Lib.uvarint m ++ Lib.uvarint x))) = xs ++ Lib.byteCells (U ++ R) ++ Lib.byteCells (Lib.uvarint m) ++ Lib.byteCells (Lib.uvarint x) := by
    simp only [Lib.byteCells_append, List.append_assoc]
  rw [e1, e2]
  exact h
set_option maxHeartbeats 4000000 in
set_option maxRecDepth 100000 in
theorem appendRuns_any (B n g o c : Nat) (zs : List Int) (sv : Value) (xs : List Value) (w : World) (hz : Rw.AllFit zs) (hl : zs.length ≤ 1048576) (hc : Cells w g o zs) (hg : g < B)
    (hown : w.ownsRow B 5 1 sv n xs) (hBw : B ≤ w.heap.size) (hlim : n + 30000000 ≤ 140737488355328) :
    Calls Tryz.prog 116 #[sv, .slice (some ⟨g, o, none⟩) zs.length c] w fun e w' => ∃ v', e = .returned v' ∧ w'.ownsRow B 5 1 v' (n + (Rw.runsB zs).length) (xs ++ Lib.byteCells (Rw.runsB zs)) ∧ Below B w w' := by
  have HZ := hide hz
  have HC := hide hc
  have HO := hide hown
  clear hz hc hown
  go_enter Tryz.func116, Tryz.ntmps116
  go_wp2
  go_loopw [5, 11] (fun q i wr => ∃ k : Nat, k ≤ zs.length ∧ i = .int .i64 k ∧ q = .int .u64 (Rw.runsTo zs k).count ∧ ∃ d, wr = w.drewN d) (fun _ i _ => zs.length - (intOf i).toNat)
  case atStart => exact ⟨0, Nat.zero_le _, rfl, rfl, 0, rfl⟩
  case round =>
    obtain ⟨k, hk, rfl, rfl, hw⟩ := hrel
    have HW := hide hw
    clear hw
    have b2 := (Rw.runsTo_count zs k).1
    by_cases hlt : k < zs.length
    · have hce := endsRun_any g o c k zs wr hlt (by omega) (cells_drew HC.out HW.out)
      cases he : Rw.ends zs k with
      | false =>
        have E := hide (congrArg Rw.RunsAt.count (runs_no he))
        rw [he] at hce
        clear he
        go_wp2_with (go_at_call 166; refine hce.mono ?_; rintro e w1 ⟨rfl, hd⟩)
        exact ⟨⟨k + 1, by omega, by go_num, by rw [E.out], drew_trans HW.out hd⟩, by simp [intOf]; omega⟩
      | true =>
        have E := hide (congrArg Rw.RunsAt.count (runs_yes he))
        rw [he] at hce
        clear he
        go_wp2_with (go_at_call 166; refine hce.mono ?_; rintro e w1 ⟨rfl, hd⟩)
        exact ⟨⟨k + 1, by omega, by go_num, by rw [E.out]; go_num, drew_trans HW.out hd⟩, by simp [intOf]; omega⟩
    · obtain rfl : k = zs.length := by omega
      have ha := appendNumber_any B n (Rw.runsTo zs zs.length).count (by omega) sv xs wr (owns_drew HO.out HW.out) (by obtain ⟨d, rfl⟩ := HW.out; exact hBw) (by omega)
      have b4 := Lib.uvarint_length64 (x := (Rw.runsTo zs zs.length).count) (by omega)
      have E := hide (show Rw.runsB zs = Lib.uvarint (Rw.runsTo zs zs.length).count ++ (Rw.runsTo zs zs.length).bytes from rfl)
      generalize Lib.uvarint (Rw.runsTo zs zs.length).count = U at *
      go_wp2_with (go_at_call 113; refine ha.mono ?_; rintro e w2 ⟨v2, rfl, hown2, hb2⟩)
      have HB := hide ((below_drew HW.out).trans hb2)
      have HO2 := hide hown2
      clear hown2 ha HO HW hb2
      go_loopw [0, 7, 25] (fun v m i wr => ∃ k : Nat, k ≤ zs.length ∧ i = .int .i64 k ∧ m = .int .u64 (Rw.runsTo zs k).len ∧ wr.ownsRow B 5 1 v (n + U.length + (Rw.runsTo zs k).bytes.length) (xs ++ Lib.byteCells (U ++ (Rw.runsTo zs k).bytes)) ∧ Below B w wr) (fun _ _ i _ => zs.length - (intOf i).toNat)
      case atStart => exact ⟨0, Nat.zero_le _, rfl, rfl, by simpa [Rw.runsTo] using HO2.out, HB.out⟩
      case round =>
        obtain ⟨k, hk, rfl, rfl, ho, hb⟩ := hrel
        have HO := hide ho
        have HW := hide hb
        clear ho hb
        have b1 := Rw.runsTo_length HZ.out k (by omega)
        have b3 := (Rw.runsTo_count zs k).2
        by_cases hlt : k < zs.length
        · have hce := endsRun_any g o c k zs wr hlt (by omega) (cells_below HC.out HW.out hg)
          have hsz := HW.out.size
          cases he : Rw.ends zs k with
          | false =>
            have E2 := hide (runs_no he)
            rw [he] at hce
            clear he
            generalize Rw.runsTo zs k = R at *
            go_wp2_with (go_at_call 166; refine hce.mono ?_; rintro e w1 ⟨rfl, hd⟩)
            refine ⟨⟨k + 1, by omega, by go_num, by rw [E2.out]; go_num, ?_, HW.out.trans (below_drew hd)⟩, by simp [intOf]; omega⟩
            rw [E2.out]
            exact owns_drew HO.out hd
          | true =>
            have E2 := hide (runs_yes he)
            rw [he] at hce
            clear he
            have hfit := Rw.getD_fits HZ.out k
            generalize Rw.runsTo zs k = R at *
            have HK := hide (fun W (hb : Below B w W) => cells_below HC.out hb hg k hlt)
            generalize zs.getD k 0 = x at *
            have b4 := Lib.uvarint_length64 (x := R.len + 1) (by omega)
            have hf := fun w => fold_any x w hfit.1 hfit.2
            go_wp2_with (go_at_call 166; refine hce.mono ?_; rintro e w1 ⟨rfl, hd⟩; have HD := hide hd; clear hd)
            have hw1 : B ≤ w1.heap.size := Nat.le_trans (Nat.le_trans hBw hsz) (below_drew (B := 0) HD.out).size
            refine (appendNumber_any B _ (R.len + 1) (by omega) _ _ w1 (owns_drew HO.out HD.out) hw1 (by omega)).mono ?_
            rintro e w2 ⟨v2, rfl, hown2, hb2⟩
            have HO3 := hide hown2
            have HB3 := hide ((HW.out.trans (below_drew HD.out)).trans hb2)
            have hk1 := HK.out _ HB3.out
            have e1 : (k : Int) < (zs.length : Int) := by omega
            have hw2 := hb2.size
            clear hown2 hb2
            go_wp2_with (go_at_call 117; refine (hf _).mono ?_; rintro e w3 ⟨rfl, rfl⟩)
            refine (appendNumber_any B _ (Lib.zigzag x) (Lib.zigzag_lt hfit.1 hfit.2) _ _ _ HO3.out (by omega) (by omega)).mono ?_
            rintro e w4 ⟨v4, rfl, hown4, hb4⟩
            have HO4 := hide hown4
            have HB4 := hide (HB3.out.trans hb4)
            clear hown4 hb4
            go_wp2
            refine ⟨⟨k + 1, by omega, by go_num, by rw [E2.out]; rfl, ?_, HB4.out⟩, by simp [intOf]; omega⟩
            rw [E2.out]
            exact runs_owned HO4.out
        · obtain rfl : k = zs.length := by omega
          go_wp2
          go_ret
          refine ⟨_, rfl, ?_, HW.out⟩
          rw [E.out, List.length_append, ← Nat.add_assoc]
          exact HO.out
end Go.Proofs.YtafmiolehlagkaaGreat.Pak
