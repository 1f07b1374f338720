import Derived.Test.YtmfoehaeejhlpaaGreatDoorGaBF
import Derived.Lib.UnsafeStr
import Derived.Test.YtmfoehaeejhlpaaGreatDoorGaAY
import Derived.Test.YtmfoehaeejhlpaaGreatDoorGaBB
/-
  What writes: systems, programs: Print of what is well formed.
-/
namespace Go.Proofs.YtmfoehaeejhlpaaGreatDoor
open Go.RowKit Yn
set_option maxRecDepth 100000
set_option maxHeartbeats 4000000 in
theorem member_s {f : Nat} {t : ByteArray} {n : Int} {ts : List Tree} {a : Nat} (hl : 5 ≤ ts.length) (hv : ∀ i (h : i < ts.length), i < 4 → CW ts[i]) (q4 : BlkW f ts[4] 0) : MW f (.mk 2 t n ts a) := by
  intro B g lw w v hb hnd hpf hz
  obtain ⟨gn, ao, c, gl, gs, rfl, hce, hcap, hc⟩ := nd_open hnd
  obtain ⟨rfl, -⟩ := hc.2.1 (by omega)
  obtain ⟨xs, hxs⟩ : ∃ xs : List (List UInt8), xs = (ts.take 4).map clB := ⟨_, rfl⟩
  have ET : prMb f (.mk 2 t n ts a) = (([115, 121, 115, 116, 101, 109, 32] : List UInt8) ++ t.data.toList) ++ xs.flatten ++ prBk f ts[4] 0 ++ ([10] : List UInt8) := by
    rw [hxs, ← getD_at (show 4 < ts.length by omega)]
    rfl
  rw [ET] at hz ⊢
  obtain ⟨l, hlw⟩ : ∃ l : List UInt8, l = lw ++ (([115, 121, 115, 116, 101, 109, 32] : List UInt8) ++ t.data.toList) := ⟨_, rfl⟩
  have HXN : Hid (xs.length = 4) := by unfold Hid; rw [hxs, List.length_map, List.length_take]; omega
  have HX : Hid (∀ i (h : i < ts.length) (h' : i < xs.length), xs[i] = clB ts[i]) := fun i h h' => by simp [hxs]
  obtain ⟨g4, k4⟩ := ch_at hc 4 (by omega)
  have K4 : Hid (∀ w', Below B w w' → w'.cell? ⟨gl, 4, none⟩ = some (.pointer (some ⟨g4, 0, none⟩))) := fun w' h => (k4 w' h).1
  have J0 := hide (put2 ⟨#[115, 121, 115, 116, 101, 109, 32]⟩ t hb (show Sz lw (([115, 121, 115, 116, 101, 109, 32] : List UInt8) ++ t.data.toList) from hz.left.left.left))
  have HZ : Hid (Sz l xs.flatten) := by
    unfold Hid
    rw [hlw]
    exact hz.left.left.right
  have J8 : Hid (∀ w', Wo B g (l ++ xs.flatten) w w' → Calls Tryz.prog 59 #[.pointer (some ⟨g, 0, none⟩), .pointer (some ⟨g4, 0, none⟩), .int .i64 0] w' (Wrt B g (l ++ xs.flatten) (prBk f ts[4] 0) w')) := fun w' h => q4 B g _ w' _ h.1 (k4 w' h.2.1).2 (hpf.below h.2.1) (by
    rw [hlw]
    have := hz
    unfold Sz at this ⊢
    simp only [List.length_append] at this ⊢
    omega)
  have J9 : Hid (∀ w', Wo B g (l ++ xs.flatten ++ prBk f ts[4] 0) w w' → Calls Tryz.prog 57 #[.pointer (some ⟨g, 0, none⟩), .slice (some ⟨w'.heap.size, 0, none⟩) 1 1] (w'.alloc (.cells #[.string ⟨#[10]⟩] 9)) (Wrt B g (l ++ xs.flatten ++ prBk f ts[4] 0) [10] w')) := fun w' h => put1 ⟨#[10]⟩ h.1 (show Sz _ ([10] : List UInt8) from by
    rw [hlw]
    have := hz
    unfold Sz at this ⊢
    simp only [List.length_append] at this ⊢
    omega)
  have CE : Hid (∀ w', Below B w w' → Ce B w' gn 2 t n (some ⟨gl, 0, none⟩) ts.length c) := fun w' h => hce.below h
  have HC := hide hc
  have HV := hide hv
  have HLW : Hid (l ++ xs.flatten ++ prBk f ts[4] 0 ++ ([10] : List UInt8) = lw ++ ((([115, 121, 115, 116, 101, 109, 32] : List UInt8) ++ t.data.toList) ++ xs.flatten ++ prBk f ts[4] 0 ++ ([10] : List UInt8))) := by
    unfold Hid
    rw [hlw]
    simp only [List.append_assoc]
  have HTL := hide hl
  have hl5 : (4 : Int) < (ts.length : Int) := by omega
  have hl4 : (4 : Int) ≤ (c : Int) := by omega
  have hl6 : 4 ≤ c := by omega
  have hc9 : c ≤ 9223372036854775807 := hcap.2
  obtain ⟨-, d0, d1, d2, d3⟩ := hce
  clear hb hnd hpf hz hc hcap hv hxs ET k4 q4
  generalize prBk f ts[4] 0 = pb at *
  go_enter Tryz.func33, Tryz.ntmps33
  go_wp2_with fail
  refine J0.out.mono ?_
  rintro e w1 ⟨rfl, h1⟩
  have h1 : Wo B g (lw ++ (([115, 121, 115, 116, 101, 109, 32] : List UInt8) ++ t.data.toList)) w w1 := h1
  rw [← hlw] at h1
  have H1 : Hid (Wo B g (l ++ (xs.take 0).flatten) w w1) := by
    have e : l ++ (xs.take 0).flatten = l := by simp
    unfold Hid
    rw [e]
    exact h1
  clear h1 J0 d0 d1 d2 d3 hlw
  obtain ⟨-, d0, d1, d2, d3⟩ := CE.out w1 H1.out.2.1
  go_wp2_with fail
  go_loopw [24] (fun v8 wr => ∃ i : Nat, v8 = .int .i64 (i : Int) ∧ i ≤ 4 ∧ Hid (Wo B g (l ++ (xs.take i).flatten) w wr)) (fun v8 _ => 4 - (intOf v8).toNat)
  case atStart => exact ⟨0, rfl, by omega, H1.out⟩
  case round =>
    obtain ⟨i, rfl, hi1, hw⟩ := hrel
    by_cases hi2 : i < 4
    · have hit : i < ts.length := by have := HTL.out; omega
      have hix : i < xs.length := by rw [HXN.out]; exact hi2
      have hig : i < gs.length := by rw [HC.out.1]; exact hit
      obtain ⟨c0, hnd⟩ := (HC.out.below hw.out.2.1).2.2 i hit hig
      have zz : Sz (l ++ (xs.take i).flatten) xs[i] := by
        have h1 := flat_le xs (i + 1)
        rw [flat_take hix, List.length_append] at h1
        have h2 := HZ.out
        unfold Sz at h2 ⊢
        rw [List.length_append]
        omega
      have ex := HX.out i hit hix
      have CT := flat_take hix
      rw [ex] at zz CT
      have J1 := hide (HV.out i hit hi2 B g _ wr _ hw.out.1 hnd zz)
      have i9 : (i : Int) < 4 := by omega
      have E1 : Hid (l ++ (xs.take i).flatten ++ clB ts[i] = l ++ (xs.take (i + 1)).flatten) := by
        unfold Hid
        rw [CT]
        simp only [List.append_assoc]
      generalize clB ts[i] = cb at *
      generalize gs[i] = gi at *
      clear zz hix hit hig ex CT hnd
      go_wp2_with fail
      refine J1.out.mono ?_
      rintro e w2 ⟨rfl, h2⟩
      have H2 : Hid (Wo B g (l ++ (xs.take (i + 1)).flatten) w w2) := by
        have := hw.out.trans h2
        rw [E1.out] at this
        exact this
      clear h2 J1 c0
      go_wp2_with fail
      exact ⟨⟨i + 1, by go_num, by omega, H2.out⟩, by simp [intOf]; omega⟩
    · obtain rfl : i = 4 := by omega
      have H9 : Hid (Wo B g (l ++ xs.flatten) w wr) := by
        have h := hw.out
        rw [← HXN.out, List.take_length] at h
        exact h
      have J := hide (J8.out wr H9.out)
      obtain ⟨-, b0, b1, b2, b3⟩ := CE.out wr H9.out.2.1
      have x4 := K4.out wr H9.out.2.1
      clear J8 d0 d1 d2 d3
      go_wp2_with fail
      refine J.out.mono ?_
      rintro e w2 ⟨rfl, h2⟩
      have H2 := hide (H9.out.trans h2)
      clear h2 J b0 b1 b2 b3 x4
      have J := hide (J9.out w2 H2.out)
      clear J9
      go_wp2_with fail
      refine J.out.mono ?_
      rintro e w3 ⟨rfl, h3⟩
      have HF : Hid (Wo B g (lw ++ ((([115, 121, 115, 116, 101, 109, 32] : List UInt8) ++ t.data.toList) ++ xs.flatten ++ pb ++ ([10] : List UInt8))) w w3) := by
        have := H2.out.trans h3
        rw [HLW.out] at this
        exact this
      clear h3 J
      go_wp2_with fail
      go_end0
      exact ⟨rfl, by have h := HF.out; first | exact h | (simp only [List.append_assoc] at h ⊢; exact h) | (simp only [List.append_assoc, List.cons_append, List.nil_append] at h ⊢; exact h)⟩
end Go.Proofs.YtmfoehaeejhlpaaGreatDoor

/-
  What writes: the text that was written.
-/
namespace Go.Proofs.YtmfoehaeejhlpaaGreatDoor
open Go.RowKit Yn
set_option maxRecDepth 100000
theorem cells5 : Tryz.prog.cellsOf 5 = 1 := by kernel_rfl
set_option maxHeartbeats 4000000 in
theorem string_w {B g : Nat} {l : List UInt8} {w : World} (h : Bt B g l w) (h0 : l ≠ []) : Calls Tryz.prog 34 #[.pointer (some ⟨g, 0, none⟩)] w fun e w' => e = .returned (.string ⟨l.toArray⟩) ∧ Below B w w' := by
  obtain ⟨p, hB, v, hbk, hown, hne⟩ : ∃ p, Lib.BuilderAt 86 5 B g p (Lib.byteCells l) w := by
    rcases h.2 with h | h
    · exact ⟨_, h⟩
    · exact ⟨_, h⟩
  have hl0 : l.length ≠ 0 := by simpa using h0
  rw [Lib.byteCells_length] at hown
  obtain ⟨q, cap, cur, rfl, hbg, hg, hnc, hcm, hcs, htake⟩ : ∃ q cap cur, v = .slice (some ⟨q, 0, none⟩) l.length cap ∧ B ≤ q ∧ w.heap[q]? = some (.cells cur 5 (0, 0)) ∧ l.length ≤ cap ∧ cap ≤ maxLen ∧ cur.size = cap * 1 ∧ cur.toList.take (l.length * 1) = Lib.byteCells l := by
    rcases hown.2 with ⟨_, hz⟩ | ⟨q, cap, cur, hv, r⟩
    · exact absurd hz hl0
    · exact ⟨q, cap, cur, hv, r⟩
  have c1 : w.drew.cell? ⟨g, 1, none⟩ = some (.slice (some ⟨q, 0, none⟩) l.length cap) := by
    have : w.drew.heap[g]? = some (.cells #[p, .slice (some ⟨q, 0, none⟩) l.length cap] 86 (0, 0)) := hbk
    rw [Lib.cell_of_heap this]; rfl
  have hSD : (Builtin.unsafeSliceData_ #[82] 122 #[.slice (some ⟨q, 0, none⟩) l.length cap]).run Tryz.prog w.drew = .ok (.pointer (some ⟨q, 0, none⟩)) w.drew :=
    Lib.run_unsafeSliceData_row _ _ _ _ _ _ (by omega)
  have hUS : (Builtin.unsafeString_ #[122, 3] 9 #[.pointer (some ⟨q, 0, none⟩), .int .i64 l.length]).run Tryz.prog w.drew = .ok (.string ⟨l.toArray⟩) (w.drew.freeze ⟨q, 0, none⟩ l.length) := by
    refine Lib.run_unsafeString_row w.drew 122 3 9 5 Tryz.underlying122 cells5 q cur.size (by have hg' : w.drew.heap[q]? = some (.cells cur 5 (0, 0)) := hg; simp [World.shape?, hg']) l h0 (by omega) (by unfold maxLen at hcm; omega) ?_
    intro j x hx
    exact hown.cells (g := q) rfl j (.int .u8 x.toNat) (by simp [Lib.byteCells, hx])
  have mixed : Tryz.prog.follows Departure.mixedOrders = true := by kernel_rfl
  clear h hown htake hne
  go_enter Tryz.func34, Tryz.ntmps34
  go_wp2_with fail
  go_region_o
  all_goals (go_wp2_with fail; go_ret; exact ⟨rfl, Lib.below_freeze (Below.drew (Below.refl B w)) (p := ⟨q, 0, none⟩) hbg _⟩)
end Go.Proofs.YtmfoehaeejhlpaaGreatDoor

/-
  Print, of a program that is well formed.
-/
namespace Go.Proofs.YtmfoehaeejhlpaaGreatDoor
open Go.RowKit Yn
set_option maxRecDepth 100000
def prPg (f : Nat) (l : List Tree) : List UInt8 := (l.map (prMb f)).flatten
theorem Bt.new (w : World) : Bt w.heap.size w.heap.size [] (w.alloc (.cells #[.pointer none, .slice none 0 0] 86)) := by
  refine ⟨by simp, .inl ⟨Nat.le_refl _, .slice none 0 0, heap_alloc_new w _, World.ownsRow_nil _ _ _ _, by simp [Value.ownBlock]⟩⟩
set_option maxHeartbeats 4000000 in
theorem print_w {f : Nat} {t : ByteArray} {n : Int} {ts : List Tree} {a : Nat} {W : World} {v : Value} (hj : Calls Tryz.prog 32 #[v] W fun e w' => e = .returned (.bool true) ∧ Below W.heap.size W w') (hnd : Nd (fun q => q < W.heap.size) W (.mk 1 t n ts a) v) (hpf : Pf W.heap.size W) (hv : ∀ i (h : i < ts.length), MW f ts[i]) (hn : ts.length ≤ 1048576) (hne : prPg f ts ≠ []) (hz : Sz [] (prPg f ts)) : Calls Tryz.prog 16 #[v] W fun e w' => e = .returned (.string ⟨(prPg f ts).toArray⟩) ∧ Below W.heap.size W w' := by
  obtain ⟨gn, ao, c, gl, gs, rfl, hce, hcap, hc⟩ := nd_open hnd
  obtain ⟨xs, hxs⟩ : ∃ xs : List (List UInt8), xs = ts.map (prMb f) := ⟨_, rfl⟩
  have ET : prPg f ts = xs.flatten := by rw [hxs]; rfl
  rw [ET] at hz hne ⊢
  obtain ⟨m, hnn⟩ : ∃ m, m = ts.length := ⟨_, rfl⟩
  have HXN : Hid (xs.length = m) := by unfold Hid; rw [hxs, hnn]; simp
  have HX : Hid (∀ i (h : i < ts.length) (h' : i < xs.length), xs[i] = prMb f ts[i]) := fun i h h' => by simp [hxs]
  have HZ := hide hz
  have HNE := hide hne
  have J0 := hide hj
  have CE : Hid (∀ w', Below W.heap.size W w' → Ce W.heap.size w' gn 1 t n ao ts.length c) := fun w' h => hce.below h
  have HC : Hid (∀ w', Below W.heap.size W w' → Ch W.heap.size w' ao ts gl gs) := fun w' h => hc.below h
  have HV := hide hv
  have HP : Hid (∀ w' B, Below W.heap.size W w' → W.heap.size ≤ B → Pf B w') := fun w' B h hB => fun w2 h2 => hpf w2 (h.trans (h2.mono hB))
  have HNN := hide hnn
  have ND : Hid (∀ w' B, Below W.heap.size W w' → W.heap.size ≤ B → ∀ i (h : i < ts.length) (h' : i < gs.length), Nd (fun q => q < B) w' ts[i] (.pointer (some ⟨gs[i], 0, none⟩))) := fun w' B h hB i h1 h2 => Nd.mono (fun q hq => Nat.lt_of_lt_of_le hq hB) _ _ ((hc.below h).2.2 i h1 h2).2
  obtain ⟨-, d0, d1, d2, d3⟩ := hce
  rw [← hnn] at hn d3 CE
  have HGL := hide hc.1
  have HAO := hide hc.2.1
  clear hj hnd hpf hz hc hcap hv hnn hxs ET hne
  go_enter Tryz.func16, Tryz.ntmps16
  go_wp2_with fail
  refine J0.out.mono ?_
  rintro e w1 ⟨rfl, h1⟩
  have H1 := hide h1
  clear h1 J0 d0 d1 d2 d3
  obtain ⟨w2, hw2⟩ : ∃ X, X = w1.alloc (.cells #[.pointer none, .slice none 0 0] 86) := ⟨_, rfl⟩
  obtain ⟨B, hB⟩ : ∃ X, X = w1.heap.size := ⟨_, rfl⟩
  have BT : Hid (Bt B B [] w2) := by rw [hw2, hB]; exact Bt.new w1
  have B2 : Hid (Below W.heap.size W w2) := by rw [hw2]; exact H1.out.trans ((below_alloc w1 _).mono H1.out.size)
  have WB : Hid (W.heap.size ≤ B) := by rw [hB]; exact H1.out.size
  go_upto_region 4 with fail
  rw [← hB, ← hw2]
  clear hw2 hB
  have H0 : Hid (Wo B B ((xs.take 0).flatten) w2 w2) := Wo.refl BT.out
  obtain ⟨-, d0, d1, d2, d3⟩ := CE.out w2 B2.out
  go_wp2_with fail
  go_loopw [16] (fun v8 wr => ∃ i : Nat, v8 = .int .i64 (i : Int) ∧ i ≤ m ∧ Hid (Wo B B ((xs.take i).flatten) w2 wr)) (fun v8 _ => m - (intOf v8).toNat)
  case atStart => exact ⟨0, rfl, by omega, H0.out⟩
  case round =>
    obtain ⟨i, rfl, hi1, hw⟩ := hrel
    have BW : Hid (Below W.heap.size W wr) := B2.out.trans (hw.out.2.1.mono WB.out)
    by_cases hi2 : i < m
    · have hit : i < ts.length := by rw [← HNN.out]; exact hi2
      have hix : i < xs.length := by rw [HXN.out]; exact hi2
      have hig : i < gs.length := by rw [HGL.out]; exact hit
      obtain ⟨rfl, -⟩ := HAO.out (by omega)
      obtain ⟨c0, -⟩ := (HC.out wr BW.out).2.2 i hit hig
      have zz : Sz ((xs.take i).flatten) xs[i] := by
        have h1 := flat_le xs (i + 1)
        rw [flat_take hix, List.length_append] at h1
        have h2 := HZ.out
        unfold Sz at h2 ⊢
        simp only [List.length_nil] at h2
        omega
      have ex := HX.out i hit hix
      have CT := flat_take hix
      rw [ex] at zz CT
      have J1 := hide (HV.out i hit B B _ wr _ hw.out.1 (ND.out wr B BW.out WB.out i hit hig) (HP.out wr B BW.out WB.out) zz)
      have i9 : (i : Int) < (m : Int) := by omega
      have E1 : Hid ((xs.take i).flatten ++ prMb f ts[i] = (xs.take (i + 1)).flatten) := by
        unfold Hid
        rw [CT]
      generalize prMb f ts[i] = pm at *
      generalize gs[i] = gi at *
      clear zz hix hit hig ex CT
      go_wp2_with fail
      refine J1.out.mono ?_
      rintro e w3 ⟨rfl, h3⟩
      have H3 : Hid (Wo B B ((xs.take (i + 1)).flatten) w2 w3) := by
        have := hw.out.trans h3
        rw [E1.out] at this
        exact this
      clear h3 J1 c0
      go_wp2_with fail
      exact ⟨⟨i + 1, by go_num, by omega, H3.out⟩, by simp [intOf]; omega⟩
    · obtain rfl : m = i := by omega
      have H9 : Hid (Wo B B xs.flatten w2 wr) := by
        have h := hw.out
        rw [← HXN.out, List.take_length] at h
        exact h
      have J := hide (string_w H9.out.1 HNE.out)
      go_wp2_with fail
      refine J.out.mono ?_
      rintro e w3 ⟨rfl, h3⟩
      have HF : Hid (Below W.heap.size W w3) := BW.out.trans (h3.mono WB.out)
      clear h3 J
      go_wp2_with fail
      go_ret
      exact ⟨rfl, HF.out⟩
end Go.Proofs.YtmfoehaeejhlpaaGreatDoor

/-
  The chapter's example: its tree, its text.
-/
namespace Go.Proofs.YtmfoehaeejhlpaaGreatDoor
open Go.RowKit Yn
set_option maxRecDepth 1000000
def exSrc : ByteArray := ⟨#[115, 121, 115, 116, 101, 109, 32, 77, 32, 114, 101, 97, 100, 115, 32, 86, 32, 119, 114, 105, 116, 101, 115, 32, 80, 123, 80, 46, 120, 61, 80, 46, 120, 43, 86, 46, 120, 59, 125, 102, 117, 110, 99, 32, 102, 40, 97, 41, 123, 114, 101, 116, 117, 114, 110, 32, 97, 45, 40, 49, 45, 50, 41, 42, 45, 51, 59, 125]⟩
def exBad : ByteArray := ⟨#[115, 121, 115, 116, 101, 109, 32, 83, 32, 123, 32, 108, 101, 116, 32, 120, 32, 61, 32, 59, 32, 125]⟩
def exOut : List UInt8 := [115, 121, 115, 116, 101, 109, 32, 77, 32, 114, 101, 97, 100, 115, 32, 86, 32, 119, 114, 105, 116, 101, 115, 32, 80, 32, 123, 10, 9, 80, 46, 120, 32, 61, 32, 80, 46, 120, 32, 43, 32, 86, 46, 120, 59, 10, 125, 10, 102, 117, 110, 99, 32, 102, 40, 97, 41, 32, 123, 10, 9, 114, 101, 116, 117, 114, 110, 32, 97, 32, 45, 32, 40, 49, 32, 45, 32, 50, 41, 32, 42, 32, 45, 51, 59, 10, 125, 10]
def exT : Tree := (.mk 1 (bs []) 0 [(.mk 2 (bs [77]) 0 [(.mk 3 (bs [119, 105, 116, 104]) 0 [] 25), (.mk 3 (bs [119, 105, 116, 104, 111, 117, 116]) 0 [] 25), (.mk 3 (bs [114, 101, 97, 100, 115]) 0 [(.mk 31 (bs [86]) 0 [] 15)] 9), (.mk 3 (bs [119, 114, 105, 116, 101, 115]) 0 [(.mk 31 (bs [80]) 0 [] 24)] 17), (.mk 5 (bs []) 0 [(.mk 12 (bs [80]) 0 [(.mk 31 (bs [120]) 0 [] 28), (.mk 33 (bs [43]) 0 [(.mk 32 (bs [80]) 0 [(.mk 31 (bs [120]) 0 [] 32)] 30), (.mk 32 (bs [86]) 0 [(.mk 31 (bs [120]) 0 [] 36)] 34)] 33)] 26)] 25)] 0), (.mk 4 (bs [102]) 0 [(.mk 3 (bs [102, 117, 110, 99]) 0 [(.mk 31 (bs [97]) 0 [] 46)] 45), (.mk 5 (bs []) 0 [(.mk 22 (bs []) 0 [(.mk 33 (bs [45]) 0 [(.mk 31 (bs [97]) 0 [] 56), (.mk 33 (bs [42]) 0 [(.mk 33 (bs [45]) 0 [(.mk 30 (bs []) 1 [] 59), (.mk 30 (bs []) 2 [] 61)] 60), (.mk 34 (bs [45]) 0 [(.mk 30 (bs []) 3 [] 65)] 64)] 63)] 57)] 49)] 48)] 39)] 0)
theorem ex_bad : parseT exBad = .no 19 100 := by kernel_rfl
theorem ex_ok : parseT exSrc = .ok exT ⟨[⟨0, exSrc.extract 68 68, 68⟩], 1, 1, 2, 0⟩ := by kernel_rfl
theorem ex_out : prPg 10 (lsT exT) = exOut := by kernel_rfl
end Go.Proofs.YtmfoehaeejhlpaaGreatDoor

/-
  What is well formed, as a reckoning.
-/
namespace Go.Proofs.YtmfoehaeejhlpaaGreatDoor
open Go.RowKit Yn
set_option maxRecDepth 1000000
def nmB (s : ByteArray) : Bool := (match lxS s with | .ok (t :: _) => decide (t.k = 1) && decide (t.t = s) | _ => false) && !(inW wsB s)
theorem nm_of {s : ByteArray} (h : nmB s = true) : nmOk s := by
  unfold nmB at h
  rw [Bool.and_eq_true] at h
  obtain ⟨h1, h2⟩ := h
  refine ⟨?_, fun hm => ?_⟩
  · split at h1
    · rename_i t ts e
      rw [Bool.and_eq_true, decide_eq_true_eq, decide_eq_true_eq] at h1
      exact ⟨t, ts, e, h1.1, h1.2⟩
    · cases h1
  · have : inW wsB s = true := List.any_eq_true.2 ⟨s, hm, by simp⟩
    rw [this] at h2
    cases h2
instance (r op : Nat) (t : ByteArray) : Decidable (tkP r op t) := by unfold tkP; infer_instance
def isNmB (op : Nat) : Bool := decide (op = 2 ∨ op = 4 ∨ op = 10 ∨ op = 11 ∨ op = 12 ∨ op = 19 ∨ op = 23 ∨ op = 24 ∨ op = 31 ∨ op = 32 ∨ op = 37)
def txB (op : Nat) (t : ByteArray) : Bool := (isNmB op && nmB t) || decide (op = 3) || decide (op = 33 ∧ binding t ≠ 0) || decide (op = 34 ∧ t = bs [45]) || decide (op = 34 ∧ t = bs [33]) || decide (op = 36 ∧ isBuiltIn t = true) || (decide (op = 36 ∧ isBuiltIn t = false) && nmB t) || decide (op = 38 ∧ t = bs [116, 105, 99, 107]) || decide (op = 38 ∧ t = bs [109, 101]) || decide ((op ≠ 2 ∧ op ≠ 3 ∧ op ≠ 4 ∧ op ≠ 10 ∧ op ≠ 11 ∧ op ≠ 12 ∧ op ≠ 19 ∧ op ≠ 23 ∧ op ≠ 24 ∧ op ≠ 31 ∧ op ≠ 32 ∧ op ≠ 33 ∧ op ≠ 34 ∧ op ≠ 36 ∧ op ≠ 37 ∧ op ≠ 38) ∧ t = bs [])
theorem tx_of {op : Nat} {t : ByteArray} (h : txB op t = true) : txOk op t := by
  unfold txB isNmB at h
  simp only [Bool.or_eq_true, Bool.and_eq_true, decide_eq_true_eq] at h
  unfold txOk
  rcases h with ((((((((h | h) | h) | h) | h) | h) | h) | h) | h) | h
  · exact .inl ⟨h.1, nm_of h.2⟩
  · exact .inr (.inl h)
  · exact .inr (.inr (.inl h))
  · exact .inr (.inr (.inr (.inl h)))
  · exact .inr (.inr (.inr (.inr (.inl h))))
  · exact .inr (.inr (.inr (.inr (.inr (.inl h)))))
  · exact .inr (.inr (.inr (.inr (.inr (.inr (.inl ⟨h.1.1, h.1.2, nm_of h.2⟩))))))
  · exact .inr (.inr (.inr (.inr (.inr (.inr (.inr (.inl h)))))))
  · exact .inr (.inr (.inr (.inr (.inr (.inr (.inr (.inr (.inl h))))))))
  · exact .inr (.inr (.inr (.inr (.inr (.inr (.inr (.inr (.inr h))))))))
def tksB (op : Nat) : Nat → List Tree → Bool
  | _, [] => true
  | i, t :: ts => decide (tkP (roleAt op i) (opT t) (txT t)) && tksB op (i + 1) ts
theorem tks_of {op : Nat} : ∀ {l : List Tree} {k : Nat}, tksB op k l = true → ∀ i (h : i < l.length), tkP (roleAt op (k + i)) (opT l[i]) (txT l[i])
  | [], _, _, i, h => absurd h (by simp)
  | t :: ts, k, h, i, hi => by
    rw [tksB, Bool.and_eq_true, decide_eq_true_eq] at h
    cases i with
    | zero => exact h.1
    | succ i =>
      have := tks_of h.2 i (by simpa using hi)
      rw [show k + 1 + i = k + (i + 1) by omega] at this
      exact this
mutual
def wfB : Tree → Nat → Bool
  | .mk op t n l _, b => decide (bkN op b ≤ 20) && txB op t && decide (op = 30 → 0 ≤ n) && decide ((fsL op).length ≤ l.length) && decide (l.length ≤ 1048576) && tksB op 0 l && wfBs l (bkN op b)
def wfBs : List Tree → Nat → Bool
  | [], _ => true
  | t :: ts, b => wfB t b && wfBs ts b
end
mutual
theorem wf_of : ∀ (T : Tree) (b : Nat), wfB T b = true → wfT T b
  | .mk op t n l a, b, h => by
    rw [wfB] at h
    simp only [Bool.and_eq_true, decide_eq_true_eq] at h
    obtain ⟨⟨⟨⟨⟨⟨h1, h2⟩, h3⟩, h4⟩, h5⟩, h6⟩, h7⟩ := h
    rw [wfT]
    refine ⟨h1, tx_of h2, h3, h4, h5, fun i hi => ?_, wf_ofs l _ h7⟩
    have := tks_of h6 i hi
    rw [Nat.zero_add] at this
    exact this
theorem wf_ofs : ∀ (l : List Tree) (b : Nat), wfBs l b = true → wfTs l b
  | [], _, _ => by rw [wfTs]; trivial
  | t :: ts, b, h => by
    rw [wfBs, Bool.and_eq_true] at h
    rw [wfTs]
    exact ⟨wf_of t b h.1, wf_ofs ts b h.2⟩
end
theorem wf_ex : wfT exT 0 := wf_of _ _ (by kernel_rfl)
theorem sz_ex : szT exT ≤ 100000 := by
  have : szT exT = 29 := by kernel_rfl
  omega
end Go.Proofs.YtmfoehaeejhlpaaGreatDoor

/-
  The chapter's example, printed.
-/
namespace Go.Proofs.YtmfoehaeejhlpaaGreatDoor
open Go.RowKit Yn
set_option maxRecDepth 1000000
def exS1 : Tree := .mk 12 (bs [80]) 0 [(.mk 31 (bs [120]) 0 [] 28), (.mk 33 (bs [43]) 0 [(.mk 32 (bs [80]) 0 [(.mk 31 (bs [120]) 0 [] 32)] 30), (.mk 32 (bs [86]) 0 [(.mk 31 (bs [120]) 0 [] 36)] 34)] 33)] 26
def exS2 : Tree := .mk 22 (bs []) 0 [(.mk 33 (bs [45]) 0 [(.mk 31 (bs [97]) 0 [] 56), (.mk 33 (bs [42]) 0 [(.mk 33 (bs [45]) 0 [(.mk 30 (bs []) 1 [] 59), (.mk 30 (bs []) 2 [] 61)] 60), (.mk 34 (bs [45]) 0 [(.mk 30 (bs []) 3 [] 65)] 64)] 63)] 57)] 49
theorem sw1 : SW exS1 := sm12 (by simp) (expr_w _ (by simp [okE, okEs]))
theorem sw2 : SW exS2 := sm22 (by simp) (expr_w _ (by simp [okE, okEs]))
theorem blk1 {T : Tree} {op a : Nat} {t : ByteArray} {n : Int} (h : SW T) (h3 : opT T ≠ 13 ∧ opT T ≠ 14 ∧ opT T ≠ 15) : BlkW 10 (.mk op t n [T] a) 0 := by
  refine (all_w 10).2.2 _ 0 (by omega) ?_
  rw [okBk]
  refine ⟨by simp [lsT], fun i hi => ?_⟩
  have hi : i < 1 := hi
  obtain rfl : i = 0 := by omega
  show okSt 9 T
  rw [okSt, if_neg h3.1, if_neg (by omega)]
  exact h
theorem ex_mem : ∀ i (h : i < (lsT exT).length), MW 10 (lsT exT)[i] := by
  intro i h
  have h : i < 2 := h
  match i, h with
  | 0, _ =>
    refine member_s (by simp) (fun i hi h4 => ?_) (blk1 sw1 (by decide))
    match i, h4 with
    | 0, _ => exact clause_w (by simp)
    | 1, _ => exact clause_w (by simp)
    | 2, _ => exact clause_w (by simp)
    | 3, _ => exact clause_w (by simp)
  | 1, _ => exact member_f (by decide) (by simp) (by simp [lsT]) (blk1 sw2 (by decide))
theorem ex_print {W : World} {v : Value} (hnd : Nd (fun q => q < W.heap.size) W exT v) (hK : Kd W) (hpf : Pf W.heap.size W) : Calls Tryz.prog 16 #[v] W fun e w' => e = .returned (.string ⟨exOut.toArray⟩) ∧ Below W.heap.size W w' := by
  have h := print_w (f := 10) (t := bs []) (n := 0) (ts := lsT exT) (a := 0) (wf_w hnd hK wf_ex sz_ex) hnd hpf ex_mem (by decide) (by rw [ex_out]; decide) (by rw [ex_out]; unfold Sz; decide)
  rw [ex_out] at h
  exact h
end Go.Proofs.YtmfoehaeejhlpaaGreatDoor
