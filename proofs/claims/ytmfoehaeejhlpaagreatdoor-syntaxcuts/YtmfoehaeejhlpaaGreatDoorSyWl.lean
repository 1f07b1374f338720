/-
  What writes: lists of names, clauses.
-/
import Derived.Test.YtmfoehaeejhlpaaGreatDoorGaAS
namespace Go.Proofs.YtmfoehaeejhlpaaGreatDoor
open Go.RowKit Yn
set_option maxRecDepth 100000
def opT : Tree → Nat | .mk op _ _ _ _ => op
def txT : Tree → ByteArray | .mk _ t _ _ _ => t
def lsT : Tree → List Tree | .mk _ _ _ l _ => l
/-- One behind the other, with commas. -/
def comJ (xs : List (List UInt8)) : List UInt8 := (xs.mapIdx fun i x => comB i ++ x).flatten
theorem comJ_take {xs : List (List UInt8)} {i : Nat} (hi : i < xs.length) : comJ (xs.take (i + 1)) = comJ (xs.take i) ++ (comB i ++ xs[i]) := by
  unfold comJ
  rw [List.take_succ_eq_append_getElem hi, List.mapIdx_append, List.flatten_append]
  simp [Nat.min_eq_left (Nat.le_of_lt hi)]
theorem comJ_le (xs : List (List UInt8)) (i : Nat) : (comJ (xs.take i)).length ≤ (comJ xs).length := by
  have : comJ xs = comJ (xs.take i) ++ ((xs.drop i).mapIdx fun j x => comB (j + (xs.take i).length) ++ x).flatten := by
    unfold comJ
    rw [← List.flatten_append, ← List.mapIdx_append, List.take_append_drop]
  rw [this, List.length_append]
  omega
theorem sz_take {l : List UInt8} {xs : List (List UInt8)} {i : Nat} (h : Sz l (comJ xs)) (hi : i < xs.length) : Sz (l ++ comJ (xs.take i)) (comB i) ∧ Sz (l ++ comJ (xs.take i) ++ comB i) xs[i] := by
  have h1 := comJ_le xs (i + 1)
  rw [comJ_take hi, List.length_append, List.length_append] at h1
  unfold Sz at h ⊢
  rw [List.length_append, List.length_append, List.length_append]
  omega
set_option maxHeartbeats 4000000 in
theorem names_w {B g c : Nat} {ao : Option Addr} {l : List UInt8} (ts : List Tree) {gl : Nat} {gs : List Nat} {w : World} (h : Bt B g l w) (hc : Ch B w ao ts gl gs) (hn : ts.length ≤ 1048576) (hz : Sz l (comJ (ts.map txT |>.map fun x => x.data.toList))) : Calls Tryz.prog 60 #[.pointer (some ⟨g, 0, none⟩), .slice ao ts.length c] w (Wrt B g l (comJ (ts.map txT |>.map fun x => x.data.toList)) w) := by
  obtain ⟨xs, hxs⟩ : ∃ xs, xs = (ts.map txT |>.map fun x => x.data.toList) := ⟨_, rfl⟩
  rw [← hxs] at hz ⊢
  obtain ⟨n, hnn⟩ : ∃ n, n = ts.length := ⟨_, rfl⟩
  have HXN : Hid (xs.length = n) := by unfold Hid; rw [hxs, hnn]; simp
  have HX : Hid (∀ i (h : i < ts.length) (h' : i < xs.length), xs[i] = (txT ts[i]).data.toList) := fun i h h' => by simp [hxs]
  have H0 : Hid (Wo B g (l ++ comJ (xs.take 0)) w w) := by
    have e : l ++ comJ (xs.take 0) = l := by simp [comJ]
    unfold Hid
    rw [e]
    exact Wo.refl h
  have HZ := hide hz
  have HC := hide hc
  have HNN := hide hnn
  rw [← hnn] at hn ⊢
  clear h hc hz hnn hxs
  go_enter Tryz.func60, Tryz.ntmps60
  go_wp2_with fail
  go_loopw [8] (fun v8 wr => ∃ i : Nat, v8 = .int .i64 (i : Int) ∧ i ≤ n ∧ Hid (Wo B g (l ++ comJ (xs.take i)) w wr)) (fun v8 _ => n - (intOf v8).toNat)
  case atStart => exact ⟨0, rfl, by omega, H0.out⟩
  case round =>
    obtain ⟨i, rfl, hi1, hw⟩ := hrel
    by_cases hi2 : i < n
    · have hit : i < ts.length := by rw [← HNN.out]; exact hi2
      have hix : i < xs.length := by rw [HXN.out]; exact hi2
      have hig : i < gs.length := by rw [HC.out.1]; exact hit
      obtain ⟨rfl, -⟩ := HC.out.2.1 (by omega)
      obtain ⟨c0, -⟩ := (HC.out.below hw.out.2.1).2.2 i hit hig
      have zz := sz_take HZ.out hix
      have J1 := hide (comma_w i hw.out.1 zz.1)
      have i9 : (i : Int) < (n : Int) := by omega
      have E1 : Hid (l ++ comJ (xs.take i) ++ comB i ++ (txT ts[i]).data.toList = l ++ comJ (xs.take (i + 1))) := by
        unfold Hid
        rw [comJ_take hix, HX.out i hit hix, ← List.append_assoc, ← List.append_assoc]
      have NX : Hid (∀ w2, Wo B g (l ++ comJ (xs.take i) ++ comB i) wr w2 → w2.cell? ⟨gs[i], 1, none⟩ = some (.string (txT ts[i])) ∧ Calls Tryz.prog 57 #[.pointer (some ⟨g, 0, none⟩), .slice (some ⟨w2.heap.size, 0, none⟩) 1 1] (w2.alloc (.cells #[.string (txT ts[i])] 9)) fun e w3 => e = .returned (.tuple #[]) ∧ Wo B g (l ++ comJ (xs.take (i + 1))) w w3) := fun w2 h2 => by
        obtain ⟨-, hnd⟩ := (HC.out.below (hw.out.2.1.trans h2.2.1)).2.2 i hit hig
        have e1 := HX.out i hit hix
        refine ⟨?_, (put1 (txT ts[i]) h2.1 (e1 ▸ zz.2)).mono ?_⟩
        · generalize ts[i] = T at hnd ⊢
          obtain ⟨op, tx, nn, ll, aa⟩ := T
          obtain ⟨g', ao', c', gl', gs', e2, hce, -, -⟩ := nd_open hnd
          injection e2 with e2
          injection e2 with e2
          injection e2 with e2 _ _
          rw [e2]
          exact hce.2.2.1
        · rintro e w3 ⟨rfl, h3⟩
          rw [E1.out] at h3
          exact ⟨rfl, hw.out.trans (h2.trans h3)⟩
      generalize txT ts[i] = tx at *
      generalize gs[i] = gi at *
      clear E1 zz hix hit hig
      go_wp2_with fail
      refine J1.out.mono ?_
      rintro e w2 ⟨rfl, h2⟩
      obtain ⟨c1, hj2⟩ := NX.out w2 h2
      have J2 := hide hj2
      clear h2 hj2 J1 NX c0
      go_wp2_with fail
      refine J2.out.mono ?_
      rintro e w3 ⟨rfl, h3⟩
      have H3 := hide h3
      clear h3 J2
      go_wp2_with fail
      exact ⟨⟨i + 1, by go_num, by omega, H3.out⟩, by simp [intOf]; omega⟩
    · obtain rfl : n = i := by omega
      have H9 : Hid (Wrt B g l (comJ xs) w (.returned (.tuple #[])) wr) := ⟨rfl, by
        have h := hw.out
        rw [← HXN.out, List.take_length] at h
        exact h⟩
      go_wp2_with fail
      go_end0
      exact H9.out
end Go.Proofs.YtmfoehaeejhlpaaGreatDoor
