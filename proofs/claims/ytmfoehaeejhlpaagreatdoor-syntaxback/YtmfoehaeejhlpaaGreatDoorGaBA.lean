import Derived.Test.YtmfoehaeejhlpaaGreatDoorGaAY
import Derived.Test.YtmfoehaeejhlpaaGreatDoorGaAZ
/-
  What writes: lists of names, clauses.
-/
namespace Go.Proofs.YtmfoehaeejhlpaaGreatDoor
open Go.RowKit Yn
set_option maxRecDepth 100000
def opT : Tree → Nat | .mk op _ _ _ _ => op
def txT : Tree → ByteArray | .mk _ t _ _ _ => t
def lsT : Tree → List Tree | .mk _ _ _ l _ => l
/-- One behind the other, with commas. -/
def comJ (xs : List (List UInt8)) : List UInt8 := (xs.mapIdx fun i x => comB i ++ x).flatten
theorem comJ_take {xs : List (List UInt8)} {i : Nat} (hi : i < xs.length) : comJ (xs.take (i + 1)) = comJ (xs.take i) ++ (comB i ++ xs[i]) := by
  unfold comJ
  rw [List.take_succ_eq_append_getElem hi, List.mapIdx_append, List.flatten_append]
  simp [Nat.min_eq_left (Nat.le_of_lt hi)]
theorem comJ_le (xs : List (List UInt8)) (i : Nat) : (comJ (xs.take i)).length ≤ (comJ xs).length := by
  have : comJ xs = comJ (xs.take i) ++ ((xs.drop i).mapIdx fun j x => comB (j + (xs.take i).length) ++ x).flatten := by
    unfold comJ
    rw [← List.flatten_append, ← List.mapIdx_append, List.take_append_drop]
  rw [this, List.length_append]
  omega
theorem sz_take {l : List UInt8} {xs : List (List UInt8)} {i : Nat} (h : Sz l (comJ xs)) (hi : i < xs.length) : Sz (l ++ comJ (xs.take i)) (comB i) ∧ Sz (l ++ comJ (xs.take i) ++ comB i) xs[i] := by
  have h1 := comJ_le xs (i + 1)
  rw [comJ_take hi, List.length_append, List.length_append] at h1
  unfold Sz at h ⊢
  rw [List.length_append, List.length_append, List.length_append]
  omega
set_option maxHeartbeats 4000000 in
theorem names_w {B g c : Nat} {ao : Option Addr} {l : List UInt8} (ts : List Tree) {gl : Nat} {gs : List Nat} {w : World} (h : Bt B g l w) (hc : Ch B w ao ts gl gs) (hn : ts.length ≤ 1048576) (hz : Sz l (comJ (ts.map txT |>.map fun x => x.data.toList))) : Calls Tryz.prog 60 #[.pointer (some ⟨g, 0, none⟩), .slice ao ts.length c] w (Wrt B g l (comJ (ts.map txT |>.map fun x => x.data.toList)) w) := by
  obtain ⟨xs, hxs⟩ : ∃ xs, xs = (ts.map txT |>.map fun x => x.data.toList) := ⟨_, rfl⟩
  rw [← hxs] at hz ⊢
  obtain ⟨n, hnn⟩ : ∃ n, n = ts.length := ⟨_, rfl⟩
  have HXN : Hid (xs.length = n) := by unfold Hid; rw [hxs, hnn]; simp
  have HX : Hid (∀ i (h : i < ts.length) (h' : i < xs.length), xs[i] = (txT ts[i]).data.toList) := fun i h h' => by simp [hxs]
  have H0 : Hid (Wo B g (l ++ comJ (xs.take 0)) w w) := by
    have e : l ++ comJ (xs.take 0) = l := by simp [comJ]
    unfold Hid
    rw [e]
    exact Wo.refl h
  have HZ := hide hz
  have HC := hide hc
  have HNN := hide hnn
  rw [← hnn] at hn ⊢
  clear h hc hz hnn hxs
  go_enter Tryz.func60, Tryz.ntmps60
  go_wp2_with fail
  go_loopw [8] (fun v8 wr => ∃ i : Nat, v8 = .int .i64 (i : Int) ∧ i ≤ n ∧ Hid (Wo B g (l ++ comJ (xs.take i)) w wr)) (fun v8 _ => n - (intOf v8).toNat)
  case atStart => exact ⟨0, rfl, by omega, H0.out⟩
  case round =>
    obtain ⟨i, rfl, hi1, hw⟩ := hrel
    by_cases hi2 : i < n
    · have hit : i < ts.length := by rw [← HNN.out]; exact hi2
      have hix : i < xs.length := by rw [HXN.out]; exact hi2
      have hig : i < gs.length := by rw [HC.out.1]; exact hit
      obtain ⟨rfl, -⟩ := HC.out.2.1 (by omega)
      obtain ⟨c0, -⟩ := (HC.out.below hw.out.2.1).2.2 i hit hig
      have zz := sz_take HZ.out hix
      have J1 := hide (comma_w i hw.out.1 zz.1)
      have i9 : (i : Int) < (n : Int) := by omega
      have E1 : Hid (l ++ comJ (xs.take i) ++ comB i ++ (txT ts[i]).data.toList = l ++ comJ (xs.take (i + 1))) := by
        unfold Hid
        rw [comJ_take hix, HX.out i hit hix, ← List.append_assoc, ← List.append_assoc]
      have NX : Hid (∀ w2, Wo B g (l ++ comJ (xs.take i) ++ comB i) wr w2 → w2.cell? ⟨gs[i], 1, none⟩ = some (.string (txT ts[i])) ∧ Calls Tryz.prog 57 #[.pointer (some ⟨g, 0, none⟩), .slice (some ⟨w2.heap.size, 0, none⟩) 1 1] (w2.alloc (.cells #[.string (txT ts[i])] 9)) fun e w3 => e = .returned (.tuple #[]) ∧ Wo B g (l ++ comJ (xs.take (i + 1))) w w3) := fun w2 h2 => by
        obtain ⟨-, hnd⟩ := (HC.out.below (hw.out.2.1.trans h2.2.1)).2.2 i hit hig
        have e1 := HX.out i hit hix
        refine ⟨?_, (put1 (txT ts[i]) h2.1 (e1 ▸ zz.2)).mono ?_⟩
        · generalize ts[i] = T at hnd ⊢
          obtain ⟨op, tx, nn, ll, aa⟩ := T
          obtain ⟨g', ao', c', gl', gs', e2, hce, -, -⟩ := nd_open hnd
          injection e2 with e2
          injection e2 with e2
          injection e2 with e2 _ _
          rw [e2]
          exact hce.2.2.1
        · rintro e w3 ⟨rfl, h3⟩
          rw [E1.out] at h3
          exact ⟨rfl, hw.out.trans (h2.trans h3)⟩
      generalize txT ts[i] = tx at *
      generalize gs[i] = gi at *
      clear E1 zz hix hit hig
      go_wp2_with fail
      refine J1.out.mono ?_
      rintro e w2 ⟨rfl, h2⟩
      obtain ⟨c1, hj2⟩ := NX.out w2 h2
      have J2 := hide hj2
      clear h2 hj2 J1 NX c0
      go_wp2_with fail
      refine J2.out.mono ?_
      rintro e w3 ⟨rfl, h3⟩
      have H3 := hide h3
      clear h3 J2
      go_wp2_with fail
      exact ⟨⟨i + 1, by go_num, by omega, H3.out⟩, by simp [intOf]; omega⟩
    · obtain rfl : n = i := by omega
      have H9 : Hid (Wrt B g l (comJ xs) w (.returned (.tuple #[])) wr) := ⟨rfl, by
        have h := hw.out
        rw [← HXN.out, List.take_length] at h
        exact h⟩
      go_wp2_with fail
      go_end0
      exact H9.out
end Go.Proofs.YtmfoehaeejhlpaaGreatDoor

/-
  What is well formed: a tree.
-/
namespace Go.Proofs.YtmfoehaeejhlpaaGreatDoor
open Go.RowKit Yn
set_option maxRecDepth 100000
mutual
def szT : Tree → Nat | .mk _ _ _ l _ => 1 + szTs l
def szTs : List Tree → Nat | [] => 0 | t :: ts => szT t + szTs ts
end
theorem szTs_take : ∀ {l : List Tree} {i : Nat} (hi : i < l.length), szTs (l.take (i + 1)) = szTs (l.take i) + szT l[i]
  | [], i, hi => absurd hi (by simp)
  | t :: ts, 0, hi => by simp [szTs]
  | t :: ts, i + 1, hi => by
    have := szTs_take (l := ts) (i := i) (by simpa using hi)
    simp only [List.take_succ_cons, szTs, List.getElem_cons_succ]
    rw [this]
    omega
theorem szTs_le : ∀ (l : List Tree) (i : Nat), szTs (l.take i) ≤ szTs l
  | [], i => by simp
  | t :: ts, 0 => by simp [szTs]
  | t :: ts, i + 1 => by
    have := szTs_le ts i
    simp only [List.take_succ_cons, szTs]
    omega
def bkN (op b : Nat) : Nat := if op = 5 then b + 1 else b
mutual
/-- A tree that is well formed, within so many blocks. -/
def wfT : Tree → Nat → Prop
  | .mk op t n l _, b => bkN op b ≤ 20 ∧ txOk op t ∧ (op = 30 → 0 ≤ n) ∧ (fsL op).length ≤ l.length ∧ l.length ≤ 1048576 ∧ (∀ i (h : i < l.length), tkP (roleAt op i) (opT l[i]) (txT l[i])) ∧ wfTs l (bkN op b)
def wfTs : List Tree → Nat → Prop
  | [], _ => True
  | t :: ts, b => wfT t b ∧ wfTs ts b
end
/-- A tree is found well formed. -/
def FW (T : Tree) (b : Nat) : Prop := ∀ (B j gw k : Nat) (w : World) (v : Value), Jd B w j gw k → Nd (fun q => q < B) w T v → (∀ w', Below B w w' → Kd w') → k + szT T ≤ 100000 → Calls Tryz.prog 56 #[.pointer (some ⟨j, 0, none⟩), v, .int .i64 (b : Int)] w fun e w' => e = .returned (.bool true) ∧ Jd B w' j gw (k + szT T) ∧ Mv w w' (fun q => q = j)
theorem Shp.mv {w w' : World} {v : Value} {op j : Nat} {x : Option Addr} {y z : Nat} (h : Shp w v op) (hm : Mv w w' (fun q => q = j)) (hj : w.cell? ⟨j, 0, none⟩ = some (.slice x y z)) : Shp w' v op := by
  obtain ⟨ao, rfl, h⟩ := h
  refine ⟨ao, rfl, fun i hi => ?_⟩
  obtain ⟨q, rfl, hq⟩ := h i hi
  refine ⟨q, rfl, hm.cell hq (fun e => ?_)⟩
  have e : q = j := e
  obtain ⟨q', e', hq'⟩ := h 0 (by omega)
  injection e' with e'
  injection e' with e' _ _
  subst e'
  rw [e, hj] at hq'
  injection hq' with hq'
  cases hq'
theorem Jd.c0 {B j gw k : Nat} {w : World} (h : Jd B w j gw k) : w.cell? ⟨j, 0, none⟩ = some (.slice (some ⟨gw, 0, none⟩) 26 26) ∧ w.cell? ⟨j, 1, none⟩ = some (.int .i64 (k : Int)) ∧ w.frozen? ⟨j, 1, none⟩ = false ∧ j < w.heap.size := by
  refine ⟨?_, ?_, frozen_of_row w j 1 _ 117 h.2.2.1, (Array.getElem?_eq_some_iff.1 h.2.2.1).1⟩
  · rw [cell_of_row _ j _ _ 117 (0, 0) h.2.2.1]; rfl
  · rw [cell_of_row _ j _ _ 117 (0, 0) h.2.2.1]; rfl
set_option maxHeartbeats 8000000 in
theorem fits5 {b : Nat} {t : ByteArray} {n : Int} {ts : List Tree} {a : Nat} (hbk : bkN 5 b ≤ 20) (htx : txOk 5 t) (hfs : (fsL 5).length ≤ ts.length) (hn : ts.length ≤ 1048576) (htk : ∀ i (h : i < ts.length), tkP (roleAt 5 i) (opT ts[i]) (txT ts[i])) (hv : ∀ i (h : i < ts.length), FW ts[i] (bkN 5 b)) : FW (.mk 5 t n ts a) b := by
  intro B j gw k w v hj hnd hK hz
  obtain ⟨gn, ao, c, gl, gs, rfl, hce, hcap, hch⟩ := nd_open hnd
  obtain ⟨m, hnn⟩ : ∃ m, m = ts.length := ⟨_, rfl⟩
  have hBj := hj.1
  obtain ⟨w1, hw1⟩ : ∃ X, X = w.setCell ⟨j, 1, none⟩ (.int .i64 ((k : Int) + 1)) := ⟨_, rfl⟩
  have kc : ((k + 1 : Nat) : Int) = (k : Int) + 1 := by omega
  have J1 : Hid (Jd B w1 j gw (k + 1)) := by
    have := hj.set (k + 1)
    rw [kc] at this
    rw [hw1]
    exact this
  have M1 : Hid (Mv w w1 (fun q => q = j)) := by rw [hw1]; exact (Mv.refl w (fun q => q = j)).set (g := j) rfl 1 _
  have hBw : B ≤ w.heap.size := by have := hj.c0.2.2.2; omega
  have MB : Hid (∀ w', Mv w w' (fun q => q = j) → Below B w w') := fun w' h => h.below hBw (fun q e => by rw [e]; exact hBj)
  have CE : Hid (∀ w', Below B w w' → Ce B w' gn 5 t n ao ts.length c) := fun w' h => hce.below h
  have HC : Hid (∀ w', Below B w w' → Ch B w' ao ts gl gs) := fun w' h => hch.below h
  have HK := hide hK
  have HF := hide hv
  have HT := hide htk
  have HX := hide htx
  have HNN := hide hnn
  have HGL := hide hch.1
  have HAO := hide hch.2.1
  have HSZ : Hid (k + 1 + szTs ts ≤ 100000) := by
    unfold Hid
    have := hz
    rw [szT] at this
    omega
  have EZ : Hid (k + szT (.mk 5 t n ts a) = k + 1 + szTs ts) := by
    unfold Hid
    rw [szT]
    omega
  have hk9 : k + 1 ≤ 100000 := by have := HSZ.out; omega
  obtain ⟨j0, j1, jf, -⟩ := hj.c0
  obtain ⟨-, d0, d1, d2, d3⟩ := hce
  have hfl := hfs
  rw [← hnn] at hn d3 CE hfl
  have hfm : ¬ (m : Int) < ((fsL 5).length : Int) := by omega
  have nk1 : ¬ (100000 : Int) < (k : Int) + 1 := by omega
  have b1 : (b : Int) + 1 ≤ 20 := by have : b + 1 ≤ 20 := hbk; omega
  have b2 : ¬ (20 : Int) < (b : Int) + 1 := by omega
  clear hj hnd hK hz hch hcap hv htk htx hnn hfs hbk
  go_enter Tryz.func56, Tryz.ntmps56
  go_upto_region 2 with fail
  rw [← hw1]
  clear hw1 j0 j1 jf d0 d1 d2 d3
  obtain ⟨j0, j1, jf, -⟩ := J1.out.c0
  rw [kc] at j1
  obtain ⟨-, d0, d1, d2, d3⟩ := CE.out w1 (MB.out w1 M1.out)
  have JT := hide (text_j J1.out (HK.out w1 (MB.out w1 M1.out)).1 ⟨(CE.out w1 (MB.out w1 M1.out)).1, d0, d1, d2, d3⟩ HX.out)
  go_wp2_with fail
  refine JT.out.mono ?_
  rintro e w2 ⟨rfl, h2⟩
  have M2 : Hid (Mv w w2 (fun q => q = j)) := M1.out.later h2
  have J2 := hide (J1.out.later h2)
  clear h2 JT j0 j1 jf d0 d1 d2 d3 J1 M1 nk1 hk9
  obtain ⟨-, d0, d1, d2, d3⟩ := CE.out w2 (MB.out w2 M2.out)
  have JS := hide (shape_w 5 w2)
  go_wp2_with fail
  refine JS.out.mono ?_
  rintro e w3 ⟨⟨vs, rfl, hsh⟩, h3⟩
  clear JS d0 d1 d2 d3
  obtain ⟨avs, rfl, -⟩ := id hsh
  obtain ⟨w4, hw4⟩ : ∃ X, X = w3.alloc (.cells #[.slice avs (fsL 5).length (fsL 5).length, .int .i64 (peR 5 : Int), .int .i64 (maR 5 : Int)] 139) := ⟨_, rfl⟩
  obtain ⟨sb, hsb⟩ : ∃ X, X = w3.heap.size := ⟨_, rfl⟩
  have b4 : Below w3.heap.size w3 w4 := by rw [hw4]; exact below_alloc w3 _
  have N4 : Hid (w4.heap[sb]? = some (.cells #[.slice avs (fsL 5).length (fsL 5).length, .int .i64 (peR 5 : Int), .int .i64 (maR 5 : Int)] 139 (0, 0))) := by rw [hw4, hsb]; exact heap_alloc_new w3 _
  have S4 := hide (hsh.later b4)
  have M4 : Hid (Mv w w4 (fun q => q = j)) := (M2.out.later h3).later b4
  have J4 := hide ((J2.out.later h3).later b4)
  have SJ : Hid (sb ≠ j) := by
    have := (J2.out.later h3).c0.2.2.2
    unfold Hid
    omega
  go_upto_region 7 with fail
  rw [← hsb, ← hw4]
  clear hw4 hsb h3 b4 hsh J2 M2
  obtain ⟨-, d0, d1, d2, d3⟩ := CE.out w4 (MB.out w4 M4.out)
  have s0 : w4.cell? ⟨sb, 0, none⟩ = some (.slice avs (fsL 5).length (fsL 5).length) := by rw [cell_of_row _ sb _ _ 139 (0, 0) N4.out]; rfl
  generalize (fsL 5).length = fl at *
  go_quiet (fail)
  obtain ⟨w5, hw5⟩ : ∃ X, X = w4.drewN nq := ⟨_, rfl⟩
  have b5 : Below w4.heap.size w4 w5 := by rw [hw5]; exact below_drawn w4 nq
  rw [← hw5]
  have N5 := hide ((b5.block sb (Array.getElem?_eq_some_iff.1 N4.out).1).trans N4.out)
  have S5 := hide (S4.out.later b5)
  have M5 := hide (M4.out.later b5)
  have J5 := hide (J4.out.later b5)
  clear hw5 b5 N4 S4 M4 J4 d0 d1 d2 d3 s0
  obtain ⟨-, d0, d1, d2, d3⟩ := CE.out w5 (MB.out w5 M5.out)
  have J50 : Hid (Jd B w5 j gw (k + 1 + szTs (ts.take 0))) := by
    have e : k + 1 + szTs (ts.take 0) = k + 1 := by rw [List.take_zero, szTs]
    unfold Hid
    rw [e]
    exact J5.out
  have hdm : decide (m < fl) = false := decide_eq_false (by omega)
  rw [hdm]
  go_wp2_with fail
  go_loopw [72] (fun v8 wr => ∃ i : Nat, v8 = .int .i64 (i : Int) ∧ i ≤ m ∧ Hid (Mv w5 wr (fun q => q = j)) ∧ Hid (Jd B wr j gw (k + 1 + szTs (ts.take i)))) (fun v8 _ => m - (intOf v8).toNat)
  case atStart => exact ⟨0, rfl, by omega, Mv.refl _ _, J50.out⟩
  case round =>
    obtain ⟨i, rfl, hi1, hm, hjr⟩ := hrel
    have MR : Hid (Mv w wr (fun q => q = j)) := M5.out.trans hm.out (fun _ _ e => e)
    have BR := hide (MB.out wr MR.out)
    by_cases hi2 : i < m
    · have hit : i < ts.length := by rw [← HNN.out]; exact hi2
      have hig : i < gs.length := by rw [HGL.out]; exact hit
      obtain ⟨rfl, -⟩ := HAO.out (by omega)
      obtain ⟨c0, hndi⟩ := (HC.out wr BR.out).2.2 i hit hig
      have NR := hm.out.at N5.out SJ.out
      have SR := S5.out.mv hm.out J5.out.c0.1
      have s0 : wr.cell? ⟨sb, 0, none⟩ = some (.slice avs fl fl) := by rw [cell_of_row _ sb _ _ 139 (0, 0) NR]; rfl
      have s1 : wr.cell? ⟨sb, 1, none⟩ = some (.int .i64 (peR 5 : Int)) := by rw [cell_of_row _ sb _ _ 139 (0, 0) NR]; rfl
      have s2 : wr.cell? ⟨sb, 2, none⟩ = some (.int .i64 (maR 5 : Int)) := by rw [cell_of_row _ sb _ _ 139 (0, 0) NR]; rfl
      have JA := hide (at_w (i := i) SR (by omega))
      have htki := HT.out i hit
      have hfi := HF.out i hit
      have ez := szTs_take hit
      have hzl := szTs_le ts (i + 1)
      have hz2 := HSZ.out
      have BL : Hid (∀ w', Below wr.heap.size wr w' → Below B w w') := fun w' h => MB.out w' (MR.out.later h)
      have JT : Hid (∀ w', Below wr.heap.size wr w' → Calls Tryz.prog 86 #[.int .i64 (roleAt 5 i : Int), .pointer (some ⟨gs[i], 0, none⟩)] w' fun e w'' => e = .returned (.bool true) ∧ w'' = w') := fun w' h => by
        obtain ⟨-, hnd'⟩ := (HC.out w' (BL.out w' h)).2.2 i hit hig
        generalize ts[i] = T at hnd' htki
        obtain ⟨o1, t1, n1, l1, a1⟩ := T
        obtain ⟨g', ao', c', gl', gs', e2, hce', -, -⟩ := nd_open hnd'
        injection e2 with e2
        injection e2 with e2
        injection e2 with e2 _ _
        rw [e2]
        exact takes_w htki hce'
      have JF : Hid (∀ w', Below wr.heap.size wr w' → Calls Tryz.prog 56 #[.pointer (some ⟨j, 0, none⟩), .pointer (some ⟨gs[i], 0, none⟩), .int .i64 ((b : Int) + 1)] w' fun e w'' => e = .returned (.bool true) ∧ Jd B w'' j gw (k + 1 + szTs (ts.take (i + 1))) ∧ Mv w5 w'' (fun q => q = j)) := fun w' h => by
        have hb' := BL.out w' h
        obtain ⟨-, hnd'⟩ := (HC.out w' hb').2.2 i hit hig
        have hh := hfi B j gw (k + 1 + szTs (ts.take i)) w' _ (hjr.out.later h) hnd' (fun w2 h2 => HK.out w2 (hb'.trans h2)) (by omega)
        rw [show ((bkN 5 b : Nat) : Int) = (b : Int) + 1 from (by show ((b + 1 : Nat) : Int) = _; omega)] at hh
        refine hh.mono ?_
        rintro e w'' ⟨rfl, q1, q2⟩
        refine ⟨rfl, ?_, (hm.out.later h).trans q2 (fun _ _ e => e)⟩
        rw [ez, ← Nat.add_assoc]
        exact q1
      have i9 : (i : Int) < (m : Int) := by omega
      generalize gs[i] = gi at *
      generalize roleAt 5 i = rr at *
      clear hit hig ez hzl hz2 htki hfi NR SR hndi
      go_wp2_with fail
      refine JA.out.mono ?_
      rintro e w6 ⟨rfl, h6⟩
      have JT6 := hide (JT.out w6 h6)
      have JF6 := hide (JF.out w6 h6)
      clear h6 JA JT JF s0 s1 s2 c0
      go_wp2_with fail
      refine JT6.out.mono ?_
      rintro e w7 ⟨rfl, rfl⟩
      clear JT6
      go_wp2_with fail
      refine JF6.out.mono ?_
      rintro e w8 ⟨rfl, q1, q2⟩
      have Q1 := hide q1
      have Q2 := hide q2
      clear q1 q2 JF6
      go_wp2_with fail
      go_roundw
      case measure => simp [intOf]; omega
      case rel => exact ⟨i + 1, by go_num, by omega, Q2.out, Q1.out⟩
    · obtain rfl : m = i := by omega
      have Q1 : Hid (Jd B wr j gw (k + szT (.mk 5 t n ts a))) := by
        have h := hjr.out
        rw [HNN.out, List.take_length] at h
        unfold Hid
        rw [EZ.out]
        exact h
      go_wp2_with fail
      go_ret
      exact ⟨rfl, Q1.out, MR.out⟩
set_option maxHeartbeats 8000000 in
theorem fits30 {b : Nat} {t : ByteArray} {n : Int} {ts : List Tree} {a : Nat} (hn0 : 0 ≤ n) (hbk : bkN 30 b ≤ 20) (htx : txOk 30 t) (hfs : (fsL 30).length ≤ ts.length) (hn : ts.length ≤ 1048576) (htk : ∀ i (h : i < ts.length), tkP (roleAt 30 i) (opT ts[i]) (txT ts[i])) (hv : ∀ i (h : i < ts.length), FW ts[i] (bkN 30 b)) : FW (.mk 30 t n ts a) b := by
  intro B j gw k w v hj hnd hK hz
  obtain ⟨gn, ao, c, gl, gs, rfl, hce, hcap, hch⟩ := nd_open hnd
  obtain ⟨m, hnn⟩ : ∃ m, m = ts.length := ⟨_, rfl⟩
  have hBj := hj.1
  obtain ⟨w1, hw1⟩ : ∃ X, X = w.setCell ⟨j, 1, none⟩ (.int .i64 ((k : Int) + 1)) := ⟨_, rfl⟩
  have kc : ((k + 1 : Nat) : Int) = (k : Int) + 1 := by omega
  have J1 : Hid (Jd B w1 j gw (k + 1)) := by
    have := hj.set (k + 1)
    rw [kc] at this
    rw [hw1]
    exact this
  have M1 : Hid (Mv w w1 (fun q => q = j)) := by rw [hw1]; exact (Mv.refl w (fun q => q = j)).set (g := j) rfl 1 _
  have hBw : B ≤ w.heap.size := by have := hj.c0.2.2.2; omega
  have MB : Hid (∀ w', Mv w w' (fun q => q = j) → Below B w w') := fun w' h => h.below hBw (fun q e => by rw [e]; exact hBj)
  have CE : Hid (∀ w', Below B w w' → Ce B w' gn 30 t n ao ts.length c) := fun w' h => hce.below h
  have HC : Hid (∀ w', Below B w w' → Ch B w' ao ts gl gs) := fun w' h => hch.below h
  have HK := hide hK
  have HF := hide hv
  have HT := hide htk
  have HX := hide htx
  have HNN := hide hnn
  have HGL := hide hch.1
  have HAO := hide hch.2.1
  have HSZ : Hid (k + 1 + szTs ts ≤ 100000) := by
    unfold Hid
    have := hz
    rw [szT] at this
    omega
  have EZ : Hid (k + szT (.mk 30 t n ts a) = k + 1 + szTs ts) := by
    unfold Hid
    rw [szT]
    omega
  have hk9 : k + 1 ≤ 100000 := by have := HSZ.out; omega
  obtain ⟨j0, j1, jf, -⟩ := hj.c0
  obtain ⟨-, d0, d1, d2, d3⟩ := hce
  have hfl := hfs
  rw [← hnn] at hn d3 CE hfl
  have hfm : ¬ (m : Int) < ((fsL 30).length : Int) := by omega
  have nk1 : ¬ (100000 : Int) < (k : Int) + 1 := by omega
  have b2 : ¬ (20 : Int) < (b : Int) := by have : b ≤ 20 := hbk; omega
  have n2 : ¬ n < 0 := by omega
  clear hj hnd hK hz hch hcap hv htk htx hnn hfs hbk
  go_enter Tryz.func56, Tryz.ntmps56
  go_upto_region 2 with fail
  rw [← hw1]
  clear hw1 j0 j1 jf d0 d1 d2 d3
  obtain ⟨j0, j1, jf, -⟩ := J1.out.c0
  rw [kc] at j1
  obtain ⟨-, d0, d1, d2, d3⟩ := CE.out w1 (MB.out w1 M1.out)
  have JT := hide (text_j J1.out (HK.out w1 (MB.out w1 M1.out)).1 ⟨(CE.out w1 (MB.out w1 M1.out)).1, d0, d1, d2, d3⟩ HX.out)
  go_wp2_with fail
  refine JT.out.mono ?_
  rintro e w2 ⟨rfl, h2⟩
  have M2 : Hid (Mv w w2 (fun q => q = j)) := M1.out.later h2
  have J2 := hide (J1.out.later h2)
  clear h2 JT j0 j1 jf d0 d1 d2 d3 J1 M1 nk1 hk9
  obtain ⟨-, d0, d1, d2, d3⟩ := CE.out w2 (MB.out w2 M2.out)
  have JS := hide (shape_w 30 w2)
  go_wp2_with fail
  refine JS.out.mono ?_
  rintro e w3 ⟨⟨vs, rfl, hsh⟩, h3⟩
  clear JS d0 d1 d2 d3
  obtain ⟨avs, rfl, -⟩ := id hsh
  obtain ⟨w4, hw4⟩ : ∃ X, X = w3.alloc (.cells #[.slice avs (fsL 30).length (fsL 30).length, .int .i64 (peR 30 : Int), .int .i64 (maR 30 : Int)] 139) := ⟨_, rfl⟩
  obtain ⟨sb, hsb⟩ : ∃ X, X = w3.heap.size := ⟨_, rfl⟩
  have b4 : Below w3.heap.size w3 w4 := by rw [hw4]; exact below_alloc w3 _
  have N4 : Hid (w4.heap[sb]? = some (.cells #[.slice avs (fsL 30).length (fsL 30).length, .int .i64 (peR 30 : Int), .int .i64 (maR 30 : Int)] 139 (0, 0))) := by rw [hw4, hsb]; exact heap_alloc_new w3 _
  have S4 := hide (hsh.later b4)
  have M4 : Hid (Mv w w4 (fun q => q = j)) := (M2.out.later h3).later b4
  have J4 := hide ((J2.out.later h3).later b4)
  have SJ : Hid (sb ≠ j) := by
    have := (J2.out.later h3).c0.2.2.2
    unfold Hid
    omega
  go_upto_region 7 with fail
  rw [← hsb, ← hw4]
  clear hw4 hsb h3 b4 hsh J2 M2
  obtain ⟨-, d0, d1, d2, d3⟩ := CE.out w4 (MB.out w4 M4.out)
  have s0 : w4.cell? ⟨sb, 0, none⟩ = some (.slice avs (fsL 30).length (fsL 30).length) := by rw [cell_of_row _ sb _ _ 139 (0, 0) N4.out]; rfl
  generalize (fsL 30).length = fl at *
  go_quiet (fail)
  obtain ⟨w5, hw5⟩ : ∃ X, X = w4.drewN nq := ⟨_, rfl⟩
  have b5 : Below w4.heap.size w4 w5 := by rw [hw5]; exact below_drawn w4 nq
  rw [← hw5]
  have N5 := hide ((b5.block sb (Array.getElem?_eq_some_iff.1 N4.out).1).trans N4.out)
  have S5 := hide (S4.out.later b5)
  have M5 := hide (M4.out.later b5)
  have J5 := hide (J4.out.later b5)
  clear hw5 b5 N4 S4 M4 J4 d0 d1 d2 d3 s0
  obtain ⟨-, d0, d1, d2, d3⟩ := CE.out w5 (MB.out w5 M5.out)
  have J50 : Hid (Jd B w5 j gw (k + 1 + szTs (ts.take 0))) := by
    have e : k + 1 + szTs (ts.take 0) = k + 1 := by rw [List.take_zero, szTs]
    unfold Hid
    rw [e]
    exact J5.out
  have hdm : decide (m < fl) = false := decide_eq_false (by omega)
  rw [hdm]
  go_wp2_with fail
  go_loopw [72] (fun v8 wr => ∃ i : Nat, v8 = .int .i64 (i : Int) ∧ i ≤ m ∧ Hid (Mv w5 wr (fun q => q = j)) ∧ Hid (Jd B wr j gw (k + 1 + szTs (ts.take i)))) (fun v8 _ => m - (intOf v8).toNat)
  case atStart => exact ⟨0, rfl, by omega, Mv.refl _ _, J50.out⟩
  case round =>
    obtain ⟨i, rfl, hi1, hm, hjr⟩ := hrel
    have MR : Hid (Mv w wr (fun q => q = j)) := M5.out.trans hm.out (fun _ _ e => e)
    have BR := hide (MB.out wr MR.out)
    by_cases hi2 : i < m
    · have hit : i < ts.length := by rw [← HNN.out]; exact hi2
      have hig : i < gs.length := by rw [HGL.out]; exact hit
      obtain ⟨rfl, -⟩ := HAO.out (by omega)
      obtain ⟨c0, hndi⟩ := (HC.out wr BR.out).2.2 i hit hig
      have NR := hm.out.at N5.out SJ.out
      have SR := S5.out.mv hm.out J5.out.c0.1
      have s0 : wr.cell? ⟨sb, 0, none⟩ = some (.slice avs fl fl) := by rw [cell_of_row _ sb _ _ 139 (0, 0) NR]; rfl
      have s1 : wr.cell? ⟨sb, 1, none⟩ = some (.int .i64 (peR 30 : Int)) := by rw [cell_of_row _ sb _ _ 139 (0, 0) NR]; rfl
      have s2 : wr.cell? ⟨sb, 2, none⟩ = some (.int .i64 (maR 30 : Int)) := by rw [cell_of_row _ sb _ _ 139 (0, 0) NR]; rfl
      have JA := hide (at_w (i := i) SR (by omega))
      have htki := HT.out i hit
      have hfi := HF.out i hit
      have ez := szTs_take hit
      have hzl := szTs_le ts (i + 1)
      have hz2 := HSZ.out
      have BL : Hid (∀ w', Below wr.heap.size wr w' → Below B w w') := fun w' h => MB.out w' (MR.out.later h)
      have JT : Hid (∀ w', Below wr.heap.size wr w' → Calls Tryz.prog 86 #[.int .i64 (roleAt 30 i : Int), .pointer (some ⟨gs[i], 0, none⟩)] w' fun e w'' => e = .returned (.bool true) ∧ w'' = w') := fun w' h => by
        obtain ⟨-, hnd'⟩ := (HC.out w' (BL.out w' h)).2.2 i hit hig
        generalize ts[i] = T at hnd' htki
        obtain ⟨o1, t1, n1, l1, a1⟩ := T
        obtain ⟨g', ao', c', gl', gs', e2, hce', -, -⟩ := nd_open hnd'
        injection e2 with e2
        injection e2 with e2
        injection e2 with e2 _ _
        rw [e2]
        exact takes_w htki hce'
      have JF : Hid (∀ w', Below wr.heap.size wr w' → Calls Tryz.prog 56 #[.pointer (some ⟨j, 0, none⟩), .pointer (some ⟨gs[i], 0, none⟩), .int .i64 ((b : Int))] w' fun e w'' => e = .returned (.bool true) ∧ Jd B w'' j gw (k + 1 + szTs (ts.take (i + 1))) ∧ Mv w5 w'' (fun q => q = j)) := fun w' h => by
        have hb' := BL.out w' h
        obtain ⟨-, hnd'⟩ := (HC.out w' hb').2.2 i hit hig
        have hh := hfi B j gw (k + 1 + szTs (ts.take i)) w' _ (hjr.out.later h) hnd' (fun w2 h2 => HK.out w2 (hb'.trans h2)) (by omega)
        rw [show ((bkN 30 b : Nat) : Int) = (b : Int) from rfl] at hh
        refine hh.mono ?_
        rintro e w'' ⟨rfl, q1, q2⟩
        refine ⟨rfl, ?_, (hm.out.later h).trans q2 (fun _ _ e => e)⟩
        rw [ez, ← Nat.add_assoc]
        exact q1
      have i9 : (i : Int) < (m : Int) := by omega
      generalize gs[i] = gi at *
      generalize roleAt 30 i = rr at *
      clear hit hig ez hzl hz2 htki hfi NR SR hndi
      go_wp2_with fail
      refine JA.out.mono ?_
      rintro e w6 ⟨rfl, h6⟩
      have JT6 := hide (JT.out w6 h6)
      have JF6 := hide (JF.out w6 h6)
      clear h6 JA JT JF s0 s1 s2 c0
      go_wp2_with fail
      refine JT6.out.mono ?_
      rintro e w7 ⟨rfl, rfl⟩
      clear JT6
      go_wp2_with fail
      refine JF6.out.mono ?_
      rintro e w8 ⟨rfl, q1, q2⟩
      have Q1 := hide q1
      have Q2 := hide q2
      clear q1 q2 JF6
      go_wp2_with fail
      go_roundw
      case measure => simp [intOf]; omega
      case rel => exact ⟨i + 1, by go_num, by omega, Q2.out, Q1.out⟩
    · obtain rfl : m = i := by omega
      have Q1 : Hid (Jd B wr j gw (k + szT (.mk 30 t n ts a))) := by
        have h := hjr.out
        rw [HNN.out, List.take_length] at h
        unfold Hid
        rw [EZ.out]
        exact h
      go_wp2_with fail
      go_ret
      exact ⟨rfl, Q1.out, MR.out⟩
set_option maxHeartbeats 8000000 in
theorem fits_ {b op : Nat} {t : ByteArray} {n : Int} {ts : List Tree} {a : Nat} (h5 : op ≠ 5) (h30 : op ≠ 30) (hbk : bkN op b ≤ 20) (htx : txOk op t) (hfs : (fsL op).length ≤ ts.length) (hn : ts.length ≤ 1048576) (htk : ∀ i (h : i < ts.length), tkP (roleAt op i) (opT ts[i]) (txT ts[i])) (hv : ∀ i (h : i < ts.length), FW ts[i] (bkN op b)) : FW (.mk op t n ts a) b := by
  intro B j gw k w v hj hnd hK hz
  obtain ⟨gn, ao, c, gl, gs, rfl, hce, hcap, hch⟩ := nd_open hnd
  obtain ⟨m, hnn⟩ : ∃ m, m = ts.length := ⟨_, rfl⟩
  have hBj := hj.1
  obtain ⟨w1, hw1⟩ : ∃ X, X = w.setCell ⟨j, 1, none⟩ (.int .i64 ((k : Int) + 1)) := ⟨_, rfl⟩
  have kc : ((k + 1 : Nat) : Int) = (k : Int) + 1 := by omega
  have J1 : Hid (Jd B w1 j gw (k + 1)) := by
    have := hj.set (k + 1)
    rw [kc] at this
    rw [hw1]
    exact this
  have M1 : Hid (Mv w w1 (fun q => q = j)) := by rw [hw1]; exact (Mv.refl w (fun q => q = j)).set (g := j) rfl 1 _
  have hBw : B ≤ w.heap.size := by have := hj.c0.2.2.2; omega
  have MB : Hid (∀ w', Mv w w' (fun q => q = j) → Below B w w') := fun w' h => h.below hBw (fun q e => by rw [e]; exact hBj)
  have CE : Hid (∀ w', Below B w w' → Ce B w' gn op t n ao ts.length c) := fun w' h => hce.below h
  have HC : Hid (∀ w', Below B w w' → Ch B w' ao ts gl gs) := fun w' h => hch.below h
  have HK := hide hK
  have HF := hide hv
  have HT := hide htk
  have HX := hide htx
  have HNN := hide hnn
  have HGL := hide hch.1
  have HAO := hide hch.2.1
  have HSZ : Hid (k + 1 + szTs ts ≤ 100000) := by
    unfold Hid
    have := hz
    rw [szT] at this
    omega
  have EZ : Hid (k + szT (.mk op t n ts a) = k + 1 + szTs ts) := by
    unfold Hid
    rw [szT]
    omega
  have hk9 : k + 1 ≤ 100000 := by have := HSZ.out; omega
  obtain ⟨j0, j1, jf, -⟩ := hj.c0
  obtain ⟨-, d0, d1, d2, d3⟩ := hce
  have hfl := hfs
  rw [← hnn] at hn d3 CE hfl
  have hfm : ¬ (m : Int) < ((fsL op).length : Int) := by omega
  have nk1 : ¬ (100000 : Int) < (k : Int) + 1 := by omega
  have hb0 : bkN op b = b := if_neg h5
  have b2 : ¬ (20 : Int) < (b : Int) := by rw [hb0] at hbk; omega
  have n5 : ¬ (op : Int) = 5 := by omega
  have n30 : ¬ (op : Int) = 30 := by omega
  clear hj hnd hK hz hch hcap hv htk htx hnn hfs hbk
  go_enter Tryz.func56, Tryz.ntmps56
  go_upto_region 2 with fail
  rw [← hw1]
  clear hw1 j0 j1 jf d0 d1 d2 d3
  obtain ⟨j0, j1, jf, -⟩ := J1.out.c0
  rw [kc] at j1
  obtain ⟨-, d0, d1, d2, d3⟩ := CE.out w1 (MB.out w1 M1.out)
  have JT := hide (text_j J1.out (HK.out w1 (MB.out w1 M1.out)).1 ⟨(CE.out w1 (MB.out w1 M1.out)).1, d0, d1, d2, d3⟩ HX.out)
  go_wp2_with fail
  refine JT.out.mono ?_
  rintro e w2 ⟨rfl, h2⟩
  have M2 : Hid (Mv w w2 (fun q => q = j)) := M1.out.later h2
  have J2 := hide (J1.out.later h2)
  clear h2 JT j0 j1 jf d0 d1 d2 d3 J1 M1 nk1 hk9
  obtain ⟨-, d0, d1, d2, d3⟩ := CE.out w2 (MB.out w2 M2.out)
  have JS := hide (shape_w op w2)
  go_wp2_with fail
  refine JS.out.mono ?_
  rintro e w3 ⟨⟨vs, rfl, hsh⟩, h3⟩
  clear JS d0 d1 d2 d3
  obtain ⟨avs, rfl, -⟩ := id hsh
  obtain ⟨w4, hw4⟩ : ∃ X, X = w3.alloc (.cells #[.slice avs (fsL op).length (fsL op).length, .int .i64 (peR op : Int), .int .i64 (maR op : Int)] 139) := ⟨_, rfl⟩
  obtain ⟨sb, hsb⟩ : ∃ X, X = w3.heap.size := ⟨_, rfl⟩
  have b4 : Below w3.heap.size w3 w4 := by rw [hw4]; exact below_alloc w3 _
  have N4 : Hid (w4.heap[sb]? = some (.cells #[.slice avs (fsL op).length (fsL op).length, .int .i64 (peR op : Int), .int .i64 (maR op : Int)] 139 (0, 0))) := by rw [hw4, hsb]; exact heap_alloc_new w3 _
  have S4 := hide (hsh.later b4)
  have M4 : Hid (Mv w w4 (fun q => q = j)) := (M2.out.later h3).later b4
  have J4 := hide ((J2.out.later h3).later b4)
  have SJ : Hid (sb ≠ j) := by
    have := (J2.out.later h3).c0.2.2.2
    unfold Hid
    omega
  go_upto_region 7 with fail
  rw [← hsb, ← hw4]
  clear hw4 hsb h3 b4 hsh J2 M2
  obtain ⟨-, d0, d1, d2, d3⟩ := CE.out w4 (MB.out w4 M4.out)
  have s0 : w4.cell? ⟨sb, 0, none⟩ = some (.slice avs (fsL op).length (fsL op).length) := by rw [cell_of_row _ sb _ _ 139 (0, 0) N4.out]; rfl
  generalize (fsL op).length = fl at *
  go_quiet (fail)
  obtain ⟨w5, hw5⟩ : ∃ X, X = w4.drewN nq := ⟨_, rfl⟩
  have b5 : Below w4.heap.size w4 w5 := by rw [hw5]; exact below_drawn w4 nq
  rw [← hw5]
  have N5 := hide ((b5.block sb (Array.getElem?_eq_some_iff.1 N4.out).1).trans N4.out)
  have S5 := hide (S4.out.later b5)
  have M5 := hide (M4.out.later b5)
  have J5 := hide (J4.out.later b5)
  clear hw5 b5 N4 S4 M4 J4 d0 d1 d2 d3 s0
  obtain ⟨-, d0, d1, d2, d3⟩ := CE.out w5 (MB.out w5 M5.out)
  have J50 : Hid (Jd B w5 j gw (k + 1 + szTs (ts.take 0))) := by
    have e : k + 1 + szTs (ts.take 0) = k + 1 := by rw [List.take_zero, szTs]
    unfold Hid
    rw [e]
    exact J5.out
  have hdm : decide (m < fl) = false := decide_eq_false (by omega)
  rw [hdm]
  go_wp2_with fail
  go_loopw [72] (fun v8 wr => ∃ i : Nat, v8 = .int .i64 (i : Int) ∧ i ≤ m ∧ Hid (Mv w5 wr (fun q => q = j)) ∧ Hid (Jd B wr j gw (k + 1 + szTs (ts.take i)))) (fun v8 _ => m - (intOf v8).toNat)
  case atStart => exact ⟨0, rfl, by omega, Mv.refl _ _, J50.out⟩
  case round =>
    obtain ⟨i, rfl, hi1, hm, hjr⟩ := hrel
    have MR : Hid (Mv w wr (fun q => q = j)) := M5.out.trans hm.out (fun _ _ e => e)
    have BR := hide (MB.out wr MR.out)
    by_cases hi2 : i < m
    · have hit : i < ts.length := by rw [← HNN.out]; exact hi2
      have hig : i < gs.length := by rw [HGL.out]; exact hit
      obtain ⟨rfl, -⟩ := HAO.out (by omega)
      obtain ⟨c0, hndi⟩ := (HC.out wr BR.out).2.2 i hit hig
      have NR := hm.out.at N5.out SJ.out
      have SR := S5.out.mv hm.out J5.out.c0.1
      have s0 : wr.cell? ⟨sb, 0, none⟩ = some (.slice avs fl fl) := by rw [cell_of_row _ sb _ _ 139 (0, 0) NR]; rfl
      have s1 : wr.cell? ⟨sb, 1, none⟩ = some (.int .i64 (peR op : Int)) := by rw [cell_of_row _ sb _ _ 139 (0, 0) NR]; rfl
      have s2 : wr.cell? ⟨sb, 2, none⟩ = some (.int .i64 (maR op : Int)) := by rw [cell_of_row _ sb _ _ 139 (0, 0) NR]; rfl
      have JA := hide (at_w (i := i) SR (by omega))
      have htki := HT.out i hit
      have hfi := HF.out i hit
      have ez := szTs_take hit
      have hzl := szTs_le ts (i + 1)
      have hz2 := HSZ.out
      have BL : Hid (∀ w', Below wr.heap.size wr w' → Below B w w') := fun w' h => MB.out w' (MR.out.later h)
      have JT : Hid (∀ w', Below wr.heap.size wr w' → Calls Tryz.prog 86 #[.int .i64 (roleAt op i : Int), .pointer (some ⟨gs[i], 0, none⟩)] w' fun e w'' => e = .returned (.bool true) ∧ w'' = w') := fun w' h => by
        obtain ⟨-, hnd'⟩ := (HC.out w' (BL.out w' h)).2.2 i hit hig
        generalize ts[i] = T at hnd' htki
        obtain ⟨o1, t1, n1, l1, a1⟩ := T
        obtain ⟨g', ao', c', gl', gs', e2, hce', -, -⟩ := nd_open hnd'
        injection e2 with e2
        injection e2 with e2
        injection e2 with e2 _ _
        rw [e2]
        exact takes_w htki hce'
      have JF : Hid (∀ w', Below wr.heap.size wr w' → Calls Tryz.prog 56 #[.pointer (some ⟨j, 0, none⟩), .pointer (some ⟨gs[i], 0, none⟩), .int .i64 ((b : Int))] w' fun e w'' => e = .returned (.bool true) ∧ Jd B w'' j gw (k + 1 + szTs (ts.take (i + 1))) ∧ Mv w5 w'' (fun q => q = j)) := fun w' h => by
        have hb' := BL.out w' h
        obtain ⟨-, hnd'⟩ := (HC.out w' hb').2.2 i hit hig
        have hh := hfi B j gw (k + 1 + szTs (ts.take i)) w' _ (hjr.out.later h) hnd' (fun w2 h2 => HK.out w2 (hb'.trans h2)) (by omega)
        rw [show ((bkN op b : Nat) : Int) = (b : Int) from (by rw [hb0])] at hh
        refine hh.mono ?_
        rintro e w'' ⟨rfl, q1, q2⟩
        refine ⟨rfl, ?_, (hm.out.later h).trans q2 (fun _ _ e => e)⟩
        rw [ez, ← Nat.add_assoc]
        exact q1
      have i9 : (i : Int) < (m : Int) := by omega
      generalize gs[i] = gi at *
      generalize roleAt op i = rr at *
      clear hit hig ez hzl hz2 htki hfi NR SR hndi
      go_wp2_with fail
      refine JA.out.mono ?_
      rintro e w6 ⟨rfl, h6⟩
      have JT6 := hide (JT.out w6 h6)
      have JF6 := hide (JF.out w6 h6)
      clear h6 JA JT JF s0 s1 s2 c0
      go_wp2_with fail
      refine JT6.out.mono ?_
      rintro e w7 ⟨rfl, rfl⟩
      clear JT6
      go_wp2_with fail
      refine JF6.out.mono ?_
      rintro e w8 ⟨rfl, q1, q2⟩
      have Q1 := hide q1
      have Q2 := hide q2
      clear q1 q2 JF6
      go_wp2_with fail
      go_roundw
      case measure => simp [intOf]; omega
      case rel => exact ⟨i + 1, by go_num, by omega, Q2.out, Q1.out⟩
    · obtain rfl : m = i := by omega
      have Q1 : Hid (Jd B wr j gw (k + szT (.mk op t n ts a))) := by
        have h := hjr.out
        rw [HNN.out, List.take_length] at h
        unfold Hid
        rw [EZ.out]
        exact h
      go_wp2_with fail
      go_ret
      exact ⟨rfl, Q1.out, MR.out⟩
end Go.Proofs.YtmfoehaeejhlpaaGreatDoor
