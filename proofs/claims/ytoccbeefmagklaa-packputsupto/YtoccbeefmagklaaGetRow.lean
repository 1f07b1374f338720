import Derived.Test.YtoccbeefmagklaaReadRuns
namespace Go.Proofs.Ytoccbeefmagklaa
open Go.RowKit

set_option maxHeartbeats 1000000 in
set_option maxRecDepth 100000 in
theorem readRuns_none (v : Value) (l : List UInt8) (count : Nat) (w : World) (h : Bs w v l) (h0 : (Dec.getN l).2 = 0) :
    Calls Try.prog 51 #[v, .int .i64 count] w fun e w' => e = .returned (.tuple #[.slice none 0 0, .int .i64 0]) ∧ w' = w := by
  have hg := get_any v l w h
  rw [h0, Dec.getN_none h0] at hg
  have hg' : Calls Try.prog 21 #[v] w fun e w' => e = .returned (.tuple #[.int .u64 0, .int .i64 0]) ∧ w' = w := hg
  clear hg h h0
  go_enter Try.func51, Try.ntmps51
  go_wp2_with fail
  refine hg'.mono ?_
  rintro e w' ⟨rfl, rfl⟩
  go_wp2
  go_ret2
  exact ⟨rfl, rfl⟩

theorem readRuns_any (v : Value) (l : List UInt8) (count : Nat) (w : World) (h : Bs w v l) (hcount : count ≤ 100000) :
    Calls Try.prog 51 #[v, .int .i64 count] w fun e w' => Out w w' e (Rd.form l 2 count) ∧ Below w.heap.size w w' := by
  by_cases h0 : (Dec.getN l).2 = 0
  · refine (readRuns_none v l count w h h0).mono ?_
    rintro e w' ⟨rfl, rfl⟩
    exact ⟨.inl ⟨by unfold Rd.form; rw [if_pos rfl, if_pos h0], rfl⟩, Below.refl _ _⟩
  · have e : Rd.form l 2 count = (Rd.runs (Dec.getN l).1 count none (l.drop (Dec.getN l).2)).map fun r => (r.1, (Dec.getN l).2 + r.2) := by
      unfold Rd.form
      rw [if_pos rfl, if_neg h0]
    rw [e]
    rcases h.parts with ⟨ao, c, rfl, rfl⟩ | ⟨g, o, c, rfl, hp, hlc, hm, hc⟩
    · exact absurd rfl h0
    · exact readRuns_loop g o c count l w hcount hlc hm hc (World.block_lt_of_cell? w _ (hc 0 hp)) _ _ rfl h0

/-! ### readForm -/
/-- The first k numbers summed up. -/
def sumsTo (zs : List Int) (k : Nat) : List Int := (Rd.sums zs).take k ++ zs.drop k
theorem sumsFrom_at : ∀ (p : Int) (zs : List Int) (k : Nat), k < zs.length → (Rd.sumsFrom p zs).getD k 0 = wrap64 (zs.getD k 0 + if k = 0 then p else (Rd.sumsFrom p zs).getD (k - 1) 0)
  | p, [], k, h => by simp at h
  | p, z :: r, 0, _ => by simp [Rd.sumsFrom]
  | p, z :: r, k + 1, h => by
    have := sumsFrom_at (wrap64 (z + p)) r k (by simpa using h)
    simp only [Rd.sumsFrom, List.getD_cons_succ, Nat.add_sub_cancel]
    rw [this]
    cases k with
    | zero => simp
    | succ k => simp
theorem sums_at {zs : List Int} {k : Nat} (h : k + 1 < zs.length) : (Rd.sums zs).getD (k + 1) 0 = wrap64 (zs.getD (k + 1) 0 + (Rd.sums zs).getD k 0) := by
  cases zs with
  | nil => simp at h
  | cons z r =>
    have := sumsFrom_at z r k (by simpa using h)
    simp only [Rd.sums, List.getD_cons_succ]
    rw [this]
    cases k with
    | zero => simp
    | succ k => simp
theorem sums_zero (zs : List Int) : (Rd.sums zs).getD 0 0 = zs.getD 0 0 := by cases zs <;> simp [Rd.sums]
theorem sums_length (zs : List Int) : (Rd.sums zs).length = zs.length := by
  cases zs with
  | nil => rfl
  | cons z r => simp [Rd.sums, (Rd.sumsFrom_facts z r).1]
theorem sumsTo_length (zs : List Int) {k : Nat} (h : k ≤ zs.length) : (sumsTo zs k).length = zs.length := by
  have := sums_length zs
  simp [sumsTo]
  omega
theorem sumsTo_zero (zs : List Int) : sumsTo zs 0 = zs := by simp [sumsTo]
theorem sumsTo_one (zs : List Int) : sumsTo zs 1 = zs := by cases zs <;> simp [sumsTo, Rd.sums]
theorem sumsTo_all (zs : List Int) : sumsTo zs zs.length = Rd.sums zs := by
  simp [sumsTo, ← sums_length zs]
theorem sumsTo_at (zs : List Int) {k j : Nat} (hk : k ≤ zs.length) (_hj : j < zs.length) : (sumsTo zs k).getD j 0 = if j < k then (Rd.sums zs).getD j 0 else zs.getD j 0 := by
  have hs := sums_length zs
  unfold sumsTo
  rw [List.getD_eq_getElem?_getD, List.getElem?_append]
  split
  · rename_i h
    simp at h
    rw [if_pos (by omega), List.getElem?_take, if_pos (by omega), List.getD_eq_getElem?_getD]
  · rename_i h
    simp at h
    rw [if_neg (by omega), List.getElem?_drop, List.getD_eq_getElem?_getD]
    congr 2
    simp
    omega
theorem sumsTo_set (zs : List Int) {k : Nat} (hk : k < zs.length) : (sumsTo zs k).set k ((Rd.sums zs).getD k 0) = sumsTo zs (k + 1) := by
  apply List.ext_getElem?
  intro j
  have l1 := sumsTo_length zs (k := k) (by omega)
  have l2 := sumsTo_length zs (k := k + 1) (by omega)
  by_cases hj : j < zs.length
  · have a1 := sumsTo_at zs (k := k + 1) (j := j) (by omega) hj
    have a0 := sumsTo_at zs (k := k) (j := j) (by omega) hj
    rw [List.getElem?_set]
    rw [List.getD_eq_getElem?_getD, List.getElem?_eq_getElem (by omega)] at a1 a0
    rw [List.getElem?_eq_getElem (l := sumsTo zs (k + 1)) (by omega)]
    simp only [Option.getD_some] at a1 a0
    rw [a1]
    split
    · rename_i h
      subst h
      rw [if_pos (by omega), if_pos (by omega)]
    · rw [List.getElem?_eq_getElem (by omega), a0]
      congr 1
      by_cases hjk : j < k
      · rw [if_pos hjk, if_pos (by omega)]
      · rw [if_neg hjk, if_neg (by omega)]
  · rw [List.getElem?_eq_none (by simp; omega), List.getElem?_eq_none (by omega)]

set_option maxHeartbeats 4000000 in
set_option maxRecDepth 100000 in
theorem readForm_any (v : Value) (l : List UInt8) (f count : Nat) (w : World) (h : Bs w v l) (hf : f ≤ 2) (hpos : 1 ≤ count) (hcount : count ≤ 100000) :
    Calls Try.prog 46 #[v, .int .i64 f, .int .i64 count] w fun e w' => Out w w' e (Rd.form l f count) ∧ Below w.heap.size w w' := by
  rcases (show f = 2 ∨ f = 0 ∨ f = 1 by omega) with rfl | rfl | rfl
  · have hr := readRuns_any v l count w h hcount
    have H := hide hr
    clear hr h
    go_enter Try.func46, Try.ntmps46
    go_wp2_with fail
    refine H.out.mono ?_
    rintro e w1 ⟨ho, hb⟩
    rcases ho with ⟨hn, rfl⟩ | ⟨zs, t, v1, hs, rfl, hown⟩
    · go_wp2
      go_ret2
      exact ⟨.inl ⟨hn, rfl⟩, hb⟩
    · have HO := hide hown
      clear hown
      go_wp2
      go_ret2
      exact ⟨.inr ⟨zs, t, v1, hs, rfl, HO.out⟩, hb⟩
  · have hr := readNumbers_any v l count w h hpos hcount
    have H := hide hr
    have E := hide (show Rd.form l 0 count = (Rd.nums count l).map fun r => (r.1, r.2) from rfl)
    clear hr h
    go_enter Try.func46, Try.ntmps46
    go_wp2_with fail
    refine H.out.mono ?_
    rintro e w1 ⟨ho, hb⟩
    rcases ho with ⟨hn, _, rfl, rfl⟩ | ⟨zs, t, g, hs, rfl, hg, hrow⟩
    · go_wp2
      go_ret2
      exact ⟨.inl ⟨by rw [E.out, hn]; rfl, rfl⟩, hb⟩
    · have hl := (Rd.nums_facts _ _ _ _ hs).1
      have HO := hide (hrow.own hg (by simp [maxLen]; omega))
      have HS := hide hs
      clear hrow hs hl
      go_wp2
      go_ret2
      exact ⟨.inr ⟨zs, t, _, by rw [E.out, HS.out]; rfl, rfl, HO.out⟩, hb⟩
  · have hr := readNumbers_any v l count w h hpos hcount
    have H := hide hr
    have E := hide (show Rd.form l 1 count = (Rd.nums count l).map fun r => (Rd.sums r.1, r.2) from rfl)
    clear hr h
    go_enter Try.func46, Try.ntmps46
    go_wp2_with fail
    refine H.out.mono ?_
    rintro e w1 ⟨ho, hb⟩
    rcases ho with ⟨hn, _, rfl, rfl⟩ | ⟨zs, t, g, hs, rfl, hg, hrow⟩
    · have HN := hide hn
      clear hn
      go_wp2
      refine wp_loop_rounds 1 ?_
      rw [rounds_succ]
      go_wp2
      go_ret2
      exact ⟨.inl ⟨by rw [E.out, HN.out]; rfl, rfl⟩, hb⟩
    · have hl := (Rd.nums_facts _ _ _ _ hs).1
      have hl' : zs.length ≤ 100000 := by omega
      have HS := hide hs
      have HR := hide hrow
      have HB := hide hb
      clear hrow hs hl hb
      go_wp2
      go_loopw [28] (fun vi wr => ∃ k : Nat, k ≤ zs.length ∧ vi = .int .i64 k ∧ Nrow wr g (sumsTo zs k) ∧ Below w.heap.size w wr) (fun vi _ => zs.length - (intOf vi).toNat)
      case atStart => exact ⟨0, Nat.zero_le _, rfl, by rw [sumsTo_zero]; exact HR.out, HB.out⟩
      case round =>
        obtain ⟨k, hk, rfl, hrow, hb⟩ := hrel
        have HRr := hide hrow
        have HBr := hide hb
        clear hrow hb
        by_cases hlt : k < zs.length
        · have e1 : (k : Int) < (zs.length : Int) := by omega
          by_cases hk0 : k = 0
          · subst hk0
            go_wp2
            refine ⟨⟨1, by omega, by go_num, ?_, HBr.out⟩, by simp [intOf]; omega⟩
            have := HRr.out
            rw [sumsTo_zero] at this
            rw [sumsTo_one zs]
            exact this
          · obtain ⟨m, rfl⟩ : ∃ m, k = m + 1 := ⟨k - 1, by omega⟩
            have c1 := HRr.out.cells (m + 1) (by rw [sumsTo_length zs (by omega)]; omega)
            have c2 := HRr.out.cells m (by rw [sumsTo_length zs (by omega)]; omega)
            have hfz := HRr.out.frozen (m + 1)
            rw [sumsTo_at zs (by omega) (by omega), if_neg (by omega), Nat.zero_add] at c1
            rw [sumsTo_at zs (by omega) (by omega), if_pos (by omega), Nat.zero_add] at c2
            have ES := hide (sums_at (zs := zs) (k := m) hlt)
            generalize zs.getD (m + 1) 0 = x at *
            generalize (Rd.sums zs).getD m 0 = y at *
            go_wp2
            go_region
            all_goals go_wp2
            refine ⟨⟨m + 1 + 1, by omega, by go_num, ?_, (HBr.out.setCell hg _).drew⟩, by simp [intOf]; omega⟩
            have := HRr.out.set (m + 1) (wrap64 (x + y))
            rw [← ES.out, sumsTo_set zs hlt] at this
            rw [← ES.out]
            exact this
        · obtain rfl : k = zs.length := by omega
          go_wp2
          go_ret2
          have hrow := HRr.out
          rw [sumsTo_all] at hrow
          have ho := hrow.own hg (by rw [sums_length]; simp [maxLen]; omega)
          rw [sums_length] at ho
          exact ⟨.inr ⟨Rd.sums zs, t, .slice (some ⟨g, 0, none⟩) zs.length zs.length, by rw [E.out, HS.out]; rfl, rfl, ho⟩, HBr.out⟩

theorem form_nil (f : Nat) {n : Nat} (h : 1 ≤ n) : Rd.form [] f n = none := by
  unfold Rd.form
  split
  · rfl
  · rw [nums_few (by simp; omega)]
    rfl
theorem form_pos {b : List UInt8} {f n : Nat} {zs : List Int} {t : Nat} (h : Rd.form b f n = some (zs, t)) (hn : 1 ≤ n) : 1 ≤ t := by
  unfold Rd.form at h
  split at h
  · split at h
    · cases h
    · obtain ⟨⟨zr, tr⟩, hr, he⟩ := Option.map_eq_some_iff.1 h
      obtain ⟨rfl, rfl⟩ := Prod.mk.inj he
      show 1 ≤ (Dec.getN b).2 + tr
      omega
  · obtain ⟨⟨zr, tr⟩, hr, he⟩ := Option.map_eq_some_iff.1 h
    obtain ⟨_, rfl⟩ := Prod.mk.inj he
    have := (Rd.nums_facts _ _ _ _ hr).2.2.1
    show 1 ≤ tr
    omega
theorem owns_drew' {B e n size : Nat} {v : Value} {xs : List Value} {w w' : World} (h : w.ownsRow B e size v n xs) (hd : ∃ d, w' = w.drewN d) : w'.ownsRow B e size v n xs := by
  obtain ⟨d, rfl⟩ := hd
  exact h
theorem below_drew' {B : Nat} {w w' : World} (h : ∃ d, w' = w.drewN d) : Below B w w' := by
  obtain ⟨d, rfl⟩ := h
  exact ⟨rfl, rfl, rfl, Nat.le_refl _, fun _ _ => rfl⟩
/-! ### GetRow -/
def GotRow (w w' : World) (e : Ending) (r : List Int × Nat) : Prop := ∃ v, e = .returned (.tuple #[v, .int .i64 (r.2 : Nat)]) ∧ Nown w' w.heap.size v r.1
theorem got_none {w w' : World} : GotRow w w' (.returned (.tuple #[.slice none 0 0, .int .i64 0])) ([], 0) := ⟨_, rfl, World.ownsRow_nil _ _ _ _⟩

set_option maxHeartbeats 4000000 in
set_option maxRecDepth 100000 in
theorem getRow_any (v : Value) (l : List UInt8) (most : Int) (w : World) (h : Bs w v l) (h0 : -9223372036854775808 ≤ most) (h1 : most ≤ 9223372036854775807) :
    Calls Try.prog 33 #[v, .int .i64 most] w fun e w' => GotRow w w' e (Rd.row l most) ∧ Below w.heap.size w w' := by
  have hg0 := get_any v l w h
  have hle0 := Dec.getN_le l
  have hlt0 := Dec.getN_lt l
  have hten := Dec.getN_ten l
  obtain ⟨n, k, hp⟩ : ∃ n k, Dec.getN l = (n, k) := ⟨_, _, rfl⟩
  rw [hp] at hg0 hle0 hlt0 hten
  simp only at hg0 hle0 hlt0 hten
  have R := hide hp
  clear hp
  by_cases hbad : k = 0 ∨ most < 0 ∨ min most 100000 < (n : Int)
  · have E := hide (show Rd.row l most = ([], 0) by unfold Rd.row; rw [R.out]; simp only; rw [if_pos hbad])
    clear R
    obtain ⟨ao, c, rfl, hlc, hm, _⟩ := h
    unfold maxLen at hm
    rcases (show k = 0 ∨ (k ≠ 0 ∧ most < 0) ∨ (k ≠ 0 ∧ ¬ most < 0 ∧ most ≤ 100000 ∧ most < (n : Int)) ∨ (k ≠ 0 ∧ ¬ most < 0 ∧ ¬ most ≤ 100000 ∧ 100000 < (n : Int)) by omega) with a | ⟨a, b⟩ | ⟨a, b, d, e⟩ | ⟨a, b, d, e⟩
    · have z1 : ((k : Int) == 0) = true := by simp [a]
      clear a hbad
      go_enter Try.func33, Try.ntmps33
      go_wp2_with fail
      refine hg0.mono ?_
      rintro e w1 ⟨rfl, rfl⟩
      go_wp2
      go_ret2
      rw [E.out]
      exact ⟨got_none, Below.refl _ _⟩
    · have z1 : ((k : Int) == 0) = false := by simp [a]
      clear a hbad
      go_enter Try.func33, Try.ntmps33
      go_wp2_with fail
      refine hg0.mono ?_
      rintro e w1 ⟨rfl, rfl⟩
      go_wp2
      go_ret2
      rw [E.out]
      exact ⟨got_none, Below.refl _ _⟩
    · have z1 : ((k : Int) == 0) = false := by simp [a]
      clear a hbad
      go_enter Try.func33, Try.ntmps33
      go_wp2_with fail
      refine hg0.mono ?_
      rintro e w1 ⟨rfl, rfl⟩
      go_wp2
      go_ret2
      rw [E.out]
      exact ⟨got_none, Below.refl _ _⟩
    · have z1 : ((k : Int) == 0) = false := by simp [a]
      clear a hbad
      go_enter Try.func33, Try.ntmps33
      go_wp2_with fail
      refine hg0.mono ?_
      rintro e w1 ⟨rfl, rfl⟩
      go_wp2
      go_ret2
      rw [E.out]
      exact ⟨got_none, Below.refl _ _⟩
  · have z1 : ((k : Int) == 0) = false := by simp; omega
    have hmost : ¬ most < 0 := by omega
    have hn : n ≤ 100000 := by omega
    have hnm : (n : Int) ≤ most := by omega
    by_cases hn0 : n = 0
    · have E := hide (show Rd.row l most = ([], k) by unfold Rd.row; rw [R.out]; simp only; rw [if_neg hbad, if_pos hn0])
      obtain ⟨ao, c, rfl, hlc, hm, _⟩ := h
      unfold maxLen at hm
      have z2 : ((n : Int) == 0) = true := by simp [hn0]
      clear R hbad hn0
      rcases (show most ≤ 100000 ∨ ¬ most ≤ 100000 by omega) with b | b
      all_goals
        go_enter Try.func33, Try.ntmps33
        go_wp2_with fail
        refine hg0.mono ?_
        rintro e w1 ⟨rfl, rfl⟩
        go_wp2
        go_ret2
        rw [E.out]
        exact ⟨⟨_, rfl, World.ownsRow_nil _ _ _ _⟩, Below.refl _ _⟩
    · have z2 : ((n : Int) == 0) = false := by simp [hn0]
      by_cases hkl : k = l.length
      · have E := hide (show Rd.row l most = ([], 0) by unfold Rd.row; rw [R.out]; simp only; rw [if_neg hbad, if_neg hn0, if_pos (.inl hkl)])
        obtain ⟨ao, c, rfl, hlc, hm, _⟩ := h
        unfold maxLen at hm
        have z3 : ((k : Int) == (l.length : Int)) = true := by rw [beq_iff_eq]; omega
        clear R hbad hn0 hkl
        rcases (show most ≤ 100000 ∨ ¬ most ≤ 100000 by omega) with b | b
        all_goals
          go_enter Try.func33, Try.ntmps33
          go_wp2_with fail
          refine hg0.mono ?_
          rintro e w1 ⟨rfl, rfl⟩
          go_wp2
          go_ret2
          rw [E.out]
          exact ⟨got_none, Below.refl _ _⟩
      · have z3 : ((k : Int) == (l.length : Int)) = false := by rw [beq_eq_false_iff_ne]; omega
        have hklt : k < l.length := by omega
        have e1 : (k : Int) < (l.length : Int) := by omega
        rcases h.parts with ⟨ao, c, rfl, rfl⟩ | ⟨g, o, c, rfl, hpos, hlc, hm, hc⟩
        · simp at hklt
        have hck := hc k hklt
        have hgd : l.getD k 0 = l[k] := by rw [List.getD_eq_getElem?_getD, List.getElem?_eq_getElem hklt]; rfl
        have hb256 := (l[k]).toNat_lt
        have HM := hide hm
        have HC := hide hc
        unfold maxLen at hm
        by_cases hf3 : 3 ≤ l[k].toNat
        · have E := hide (show Rd.row l most = ([], 0) by unfold Rd.row; rw [R.out]; simp only; rw [if_neg hbad, if_neg hn0, if_pos (.inr (by rw [hgd]; exact hf3))])
          have z4 : (3 : Int) ≤ l[k].toNat := by omega
          clear R hbad hn0 hkl hc hgd
          generalize l[k].toNat = f at *
          rcases (show most ≤ 100000 ∨ ¬ most ≤ 100000 by omega) with b | b
          all_goals
            go_enter Try.func33, Try.ntmps33
            go_wp2_with fail
            refine hg0.mono ?_
            rintro e w1 ⟨rfl, rfl⟩
            go_wp2
            go_ret2
            rw [E.out]
            exact ⟨got_none, Below.refl _ _⟩
        · have E := hide (show Rd.row l most = match Rd.form (l.drop (k + 1)) l[k].toNat n with | none => ([], 0) | some (zs, s) => if Rw.best zs ≠ l[k].toNat then ([], 0) else (zs, k + 1 + s) by
            unfold Rd.row; rw [R.out]; simp only; rw [if_neg hbad, if_neg hn0, if_neg (by rw [hgd]; omega), hgd]; rfl)
          have z4 : ¬ (3 : Int) ≤ l[k].toNat := by omega
          clear R hbad hc hgd
          generalize l[k].toNat = f at *
          by_cases hkc : k + 1 = c
          · have hnil : l.drop (k + 1) = [] := List.drop_eq_nil_of_le (by omega)
            have hrf := readForm_any (.slice (some ⟨g, o, none⟩) 0 0) [] f n w ⟨some ⟨g, o, none⟩, 0, rfl, Nat.le_refl _, Nat.zero_le _, fun j hj => absurd hj (by simp)⟩ (by omega) (by omega) hn
            have E2 := hide (show Rd.row l most = ([], 0) by rw [E.out, hnil, form_nil f (by omega)])
            rw [form_nil f (by omega)] at hrf
            have HF := hide hrf
            clear hrf hnil E
            subst hkc
            rcases (show most ≤ 100000 ∨ ¬ most ≤ 100000 by omega) with b | b
            all_goals
              go_enter Try.func33, Try.ntmps33
              go_wp2_with fail
              refine hg0.mono ?_
              rintro e w1 ⟨rfl, rfl⟩
              go_wp2_with fail
              refine HF.out.mono ?_
              rintro e w2 ⟨ho, hb⟩
              rcases ho with ⟨_, rfl⟩ | ⟨zs, t, v1, hs, _, _⟩
              · go_wp2
                go_ret2
                rw [E2.out]
                exact ⟨got_none, hb⟩
              · cases hs
          · have hrf := readForm_any _ _ f n w (Bs.cut HC.out hlc HM.out (k := k + 1) (by omega) hkc) (by omega) (by omega) hn
            have hkc' : ¬ (k : Int) + 1 = c := by omega
            have HF := hide hrf
            have hll : l.length ≤ 9223372036854775807 := by omega
            clear hrf
            rcases (show most ≤ 100000 ∨ ¬ most ≤ 100000 by omega) with b | b
            all_goals
              go_enter Try.func33, Try.ntmps33
              go_wp2_with fail
              refine hg0.mono ?_
              rintro e w1 ⟨rfl, rfl⟩
              go_wp2_with fail
              refine HF.out.mono ?_
              rintro e w2 ⟨ho, hb⟩
              rcases ho with ⟨hno, rfl⟩ | ⟨zs, t, v1, hs, rfl, hown⟩
              · go_wp2
                go_ret2
                rw [E.out, hno]
                exact ⟨got_none, hb⟩
              · obtain ⟨hzl, htl, hfit⟩ := Rd.form_facts hs
                have htp := form_pos hs (by omega)
                obtain ⟨ao, cap, rfl, hcap, hcm, hsh⟩ := hown.shape
                obtain ⟨g1, rfl, hB1, hc1⟩ := hsh (by omega)
                have hsf := shortest_any g1 0 cap zs w2 hfit (by omega) hc1
                have hb2 := Rw.best_le zs
                have E3 := hide (show Rd.row l most = if Rw.best zs ≠ f then ([], 0) else (zs, k + 1 + t) by rw [E.out, hs])
                have z5 : ((t : Int) == 0) = false := by simp; omega
                rw [List.length_drop] at htl
                have HO := hide hown
                have HB := hide hb
                have HSF := hide hsf
                have HZ := hide hzl
                clear hs hown hb hsf hfit hc1 hsh hzl HF
                generalize Rw.best zs = q at *
                go_wp2_with fail
                refine HSF.out.mono ?_
                rintro e w3 ⟨rfl, hd⟩
                have HD := hide hd
                clear hd HSF
                by_cases hq : q = f
                · have z6 : ((q : Int) != f) = false := by rw [bne_eq_false_iff_eq]; omega
                  have HQ := hide hq
                  clear hq
                  go_wp2
                  go_ret2
                  rw [E3.out, if_neg (by simpa using HQ.out)]
                  exact ⟨⟨_, by simp, owns_drew' HO.out HD.out⟩, HB.out.trans (below_drew' HD.out)⟩
                · have z6 : ((q : Int) != f) = true := by rw [bne_iff_ne]; omega
                  go_wp2
                  go_ret2
                  rw [E3.out, if_pos hq]
                  exact ⟨got_none, HB.out.trans (below_drew' HD.out)⟩
end Go.Proofs.Ytoccbeefmagklaa
