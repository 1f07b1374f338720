import Derived.Test.YtfkhhplcogedmaaGreatDoorMgO
import Derived.Test.YtfkhhplcogedmaaGreatDoorMgM
import Derived.Test.YtfkhhplcogedmaaGreatDoorVgA
import Derived.Test.YtfkhhplcogedmaaGreatDoorMgN
import Derived.Lib.SmallJoins
import Derived.Test.YtfkhhplcogedmaaGreatDoorMgI
/-
  Verify: world.New, as far as its error goes.
-/
namespace Go.Proofs.YtfkhhplcogedmaaGreatDoor
open Go.RowKit
set_option maxRecDepth 100000
theorem idsnew_any (W : World) : Calls Tryz.prog 39 #[.int .i64 200] W fun e w' => (∃ g, e = .returned (.tuple #[.pointer (some ⟨g, 0, none⟩), .int .i64 0])) ∧ Below W.heap.size W w' := by
  go_enter Tryz.func39, Tryz.ntmps39
  go_wp2_with fail
  go_ret2
  exact ⟨⟨_, rfl⟩, below_alloc W _⟩
set_option maxHeartbeats 4000000 in
theorem wnew_any {W : World} {v : Value} {ks : List Kind} (h : Kr W v ks) : Calls Tryz.prog 19 #[v] W fun e w' => (∃ pv b, e = .returned (.tuple #[pv, .int .i64 (if b = true then 0 else 65)]) ∧ (b = true ↔ mayB ks)) ∧ Below W.heap.size W w' := by
  have H := hide h
  have J1 := hide (maybe_any h)
  have J2 : Hid (∀ V, Calls Tryz.prog 39 #[.int .i64 200] V fun e w' => (∃ g, e = .returned (.tuple #[.pointer (some ⟨g, 0, none⟩), .int .i64 0])) ∧ Below V.heap.size V w') := idsnew_any
  have hmm := @run_makeMap Tryz.prog
  obtain ⟨ao, c, rfl, h1, h2, -⟩ := h
  have h3 : c ≤ 9223372036854775807 := by unfold maxLen at h2; omega
  clear h2
  go_enter Tryz.func19, Tryz.ntmps19
  go_wp2_with fail
  refine J1.out.mono ?_
  rintro e w1 ⟨⟨b, rfl, hb⟩, b1⟩
  have HB := hide hb
  have B1 := hide b1
  clear hb b1 J1
  cases b with
  | false =>
    go_wp2_with fail
    go_ret2
    exact ⟨⟨_, false, rfl, HB.out⟩, B1.out⟩
  | true =>
    have hm := HB.out.1 rfl
    have J3 : Hid (∀ V, Below W.heap.size W V → Calls Tryz.prog 40 #[.slice ao ks.length c] V fun e w' => ∃ v', e = .returned v' ∧ Ko V.heap.size w' v' ks ∧ Below V.heap.size V w') := fun V hV => clone_kinds (H.out.later hV) (by have := hm.2.1; omega) (fun k hk => by have := (hm.2.2.1 k hk).1; omega)
    clear hm
    go_wp2_with fail
    refine (J2.out w1).mono ?_
    rintro e w2 ⟨⟨g, rfl⟩, b2⟩
    have B2 := hide (below_on B1.out b2)
    clear b2
    go_wp2_with fail
    refine (J3.out w2 B2.out).mono ?_
    rintro e w3 ⟨v3, rfl, ko, b3⟩
    have B3 := hide (below_on B2.out b3)
    obtain ⟨L, l1, -, -⟩ := ko
    obtain ⟨a3, c3, rfl⟩ := own_len l1
    clear l1 b3
    go_wp2_with fail
    go_ret2
    refine ⟨⟨_, true, rfl, by simpa using HB.out⟩, ?_⟩
    have b4 := below_alloc w3 (.map #[] 0)
    have b5 := below_alloc (w3.alloc (.map #[] 0)) (.map #[] 0)
    exact below_on B3.out (below_on (below_on b4 b5) (below_alloc _ _))
end Go.Proofs.YtfkhhplcogedmaaGreatDoor

/-
  Verify: what Verify answers, plain.
-/
namespace Go.Proofs.YtfkhhplcogedmaaGreatDoor
open Go.RowKit
set_option maxRecDepth 100000
/-- What is asked behind the depths. -/
def Vo5 (p : Pg) (o : Option (Int × Int)) : Prop := ∃ o3, DaO p.fns (rosOf p) o3 ∧ ((∃ x, o3 = some x ∧ o = some x) ∨ (o3 = none ∧ RnO p.fns (rosOf p) o))
def Vo4 (p : Pg) (o : Option (Int × Int)) : Prop := ∃ on, Fst p.fns.length (Cyc (Eg (cls p.fns))) on ∧ ((∃ n, on = some n ∧ o = some (plOf p (p.sys.length + n), 115)) ∨ (on = none ∧ Vo5 p o))
def Vo3 (p : Pg) (ks : List Kind) (o : Option (Int × Int)) : Prop := ∃ o1, TcO p.fns.length ks (rosOf p) o1 ∧ ((∃ x, o1 = some x ∧ o = some x) ∨ (o1 = none ∧ Vo4 p o))
def Vo2 (p : Pg) (ks : List Kind) (o : Option (Int × Int)) : Prop := ∃ on, Fst p.sys.length (SetBad ks.length p.sys) on ∧ ((∃ n, on = some n ∧ o = some (plOf p n, 60)) ∨ (on = none ∧ Vo3 p ks o))
/-- What Verify answers. -/
def Vo (p : Pg) (ks : List Kind) (o : Option (Int × Int)) : Prop :=
  (¬ mayB ks ∧ o = some (0, 65)) ∨ (mayB ks ∧ mayOk p = false ∧ o = some (0, 130)) ∨ (mayB ks ∧ mayOk p = true ∧ Vo2 p ks o)
theorem mayOk_all {p : Pg} (h : mayOk p = true) : (p.sys.length ≤ 16 ∧ p.fns.length ≤ 16) ∧ (∀ s ∈ p.sys, sysOk s = true) ∧ (∀ r ∈ p.fns, rtOk r = true) ∧ sumS p.sys + sumR p.fns ≤ 2000 := by
  unfold mayOk at h
  simp only [Bool.and_eq_true, decide_eq_true_iff, List.all_eq_true] at h
  obtain ⟨⟨⟨h1, h2⟩, h3⟩, h4⟩ := h
  exact ⟨h1, h2, h3, h4⟩
theorem sumS_take_le (l : List Sy) (i : Nat) : sumS (l.take i) ≤ sumS l := by
  have h := congrArg sumS (List.take_append_drop i l)
  simp only [sumS, List.map_append, List.sum_append] at h ⊢
  omega
theorem sumR_take_le (l : List Rt) (i : Nat) : sumR (l.take i) ≤ sumR l := by
  have h := congrArg sumR (List.take_append_drop i l)
  simp only [sumR, List.map_append, List.sum_append] at h ⊢
  omega
/-- What is known of the routines of a program that may be written. -/
theorem ros_all {p : Pg} (h : mayOk p = true) : ∀ r ∈ rosOf p, 0 ≤ r.rt.lo ∧ r.pl + r.rt.code.length ≤ 2000 ∧ rtOk r.rt = true ∧ (∀ k, k ∈ r.re ∨ k ∈ r.wr → 1 ≤ k ∧ ∃ s ∈ p.sys, k ∈ s.wi ++ s.wo ++ s.re ++ s.wr) := by
  obtain ⟨-, h2, h3, h4⟩ := mayOk_all h
  intro r hr
  rw [rosOf, List.mem_append] at hr
  rcases hr with hr | hr
  · obtain ⟨i, hi, rfl⟩ := List.getElem_of_mem hr
    have hi' : i < p.sys.length := by rw [roS_len] at hi; exact hi
    rw [roS_at hi']
    have hs := sysOk_all (h2 p.sys[i] (List.getElem_mem hi'))
    have hr2 := rtOk_all hs.2.2.2.2
    have e1 := sumS_snoc hi'
    have e2 := sumS_take_le p.sys (i + 1)
    refine ⟨by show 0 ≤ p.sys[i].run.lo; omega, by show sumS (p.sys.take i) + p.sys[i].run.code.length ≤ 2000; omega, hs.2.2.2.2, fun k hk => ?_⟩
    dsimp only at hk
    rcases hk with hk | hk
    · exact ⟨((setOk_mem hs.2.2.1).1 k hk).1, p.sys[i], List.getElem_mem hi', by simp [hk]⟩
    · exact ⟨((setOk_mem hs.2.2.2.1).1 k hk).1, p.sys[i], List.getElem_mem hi', by simp [hk]⟩
  · obtain ⟨i, hi, rfl⟩ := List.getElem_of_mem hr
    have hi' : i < p.fns.length := by rw [roF_len] at hi; exact hi
    rw [roF_at hi']
    have hr2 := rtOk_all (h3 p.fns[i] (List.getElem_mem hi'))
    have e1 := sumR_snoc hi'
    have e2 := sumR_take_le p.fns (i + 1)
    refine ⟨by show 0 ≤ p.fns[i].lo; omega, by show sumS p.sys + sumR (p.fns.take i) + p.fns[i].code.length ≤ 2000; omega, h3 p.fns[i] (List.getElem_mem hi'), fun k hk => ?_⟩
    dsimp only at hk
    rcases hk with hk | hk <;> cases hk
theorem ros_fn {p : Pg} {n : Nat} (hn : n < p.fns.length) (hN : p.sys.length + n < (rosOf p).length) : (rosOf p)[p.sys.length + n] = ⟨p.fns[n], sumS p.sys + sumR (p.fns.take n), false, [], []⟩ := by
  have h : (rosOf p)[p.sys.length + n]? = some ⟨p.fns[n], sumS p.sys + sumR (p.fns.take n), false, [], []⟩ := by
    unfold rosOf
    rw [List.getElem?_append_right (by rw [roS_len]; omega), roS_len, Nat.add_sub_cancel_left, List.getElem?_eq_getElem (by rw [roF_len]; exact hn), roF_at hn]
  exact Option.some.inj ((List.getElem?_eq_getElem hN).symm.trans h)
theorem ros_sys {p : Pg} {n : Nat} (hn : n < p.sys.length) (hN : n < (rosOf p).length) : (rosOf p)[n] = ⟨p.sys[n].run, sumS (p.sys.take n), true, p.sys[n].re, p.sys[n].wr⟩ := by
  have h : (rosOf p)[n]? = some ⟨p.sys[n].run, sumS (p.sys.take n), true, p.sys[n].re, p.sys[n].wr⟩ := by
    unfold rosOf
    rw [List.getElem?_append_left (by rw [roS_len]; exact hn), List.getElem?_eq_getElem (by rw [roS_len]; exact hn), roS_at hn]
  exact Option.some.inj ((List.getElem?_eq_getElem hN).symm.trans h)
/-- Where no set names a kind that there is not. -/
theorem sets_kinds {p : Pg} {nk : Nat} (h : mayOk p = true) (hs : Fst p.sys.length (SetBad nk p.sys) none) : ∀ r ∈ rosOf p, (∀ k, k ∈ r.re ∨ k ∈ r.wr → 1 ≤ k ∧ k ≤ (nk : Int)) ∧ 0 ≤ r.rt.lo ∧ r.pl + r.rt.code.length ≤ 2000 := fun r hr => by
  obtain ⟨h1, h2, -, h4⟩ := ros_all h r hr
  refine ⟨fun k hk => ?_, h1, h2⟩
  obtain ⟨h5, s, hs1, hs2⟩ := h4 k hk
  refine ⟨h5, ?_⟩
  obtain ⟨n, hn, rfl⟩ := List.getElem_of_mem hs1
  have := hs n hn
  apply Classical.byContradiction
  intro c
  exact this ⟨hn, k, hs2, by omega⟩
/-- Where nothing is touched that may not be, who is called is there. -/
theorem calls_there {p : Pg} {ks : List Kind} (h : mayOk p = true) (ht : TcO p.fns.length ks (rosOf p) none) : ∀ r ∈ p.fns, r.code.length ≤ 2000 ∧ ∀ i ∈ r.code, i.op = 21 → 0 ≤ i.a ∧ i.a < (p.fns.length : Int) := fun r hr => by
  obtain ⟨-, -, h3, -⟩ := mayOk_all h
  refine ⟨(rtOk_all (h3 r hr)).2.2.2.1, fun i hi h21 => ?_⟩
  rcases ht with ⟨-, ht⟩ | ⟨_, _, _, _, _, e⟩
  · obtain ⟨n, hn, rfl⟩ := List.getElem_of_mem hr
    obtain ⟨a, ha, rfl⟩ := List.getElem_of_mem hi
    have hN : p.sys.length + n < (rosOf p).length := by rw [rosOf_len]; omega
    have hat := ros_fn hn hN
    have hb := ht (p.sys.length + n) hN
    apply Classical.byContradiction
    intro c
    refine hb ⟨hN, a, by rw [hat]; exact ha, .inl ?_⟩
    rw [hat]
    unfold mtI
    dsimp only
    have e2 : iat p.fns[n].code a = p.fns[n].code[a] := iat_eq ha
    rw [e2, h21]
    rw [if_neg (by decide), if_pos rfl]
    exact decide_eq_false c
  · cases e
end Go.Proofs.YtfkhhplcogedmaaGreatDoor

/-
  Verify: what is taken, plain.
-/
namespace Go.Proofs.YtfkhhplcogedmaaGreatDoor
/-- What is known of a routine of a program that is taken. -/
structure Gd (p : Pg) (ks : List Kind) (r : Ro) : Prop where
  ne : r.rt.code ≠ []
  len : r.rt.code.length ≤ 2000
  dpo : Dpo 150 151 153 p.fns r.rt.code none
  mt : ∀ a, a < r.rt.code.length → mtI p.fns.length ks r a = true
  cyc : ∀ a, a < r.rt.code.length → Rcd p.fns r.rt.code a → ¬ Cyc (Eg (stl r.rt.code r.rt.code.length)) a
  kin : ∀ q, q ∈ r.re ∨ q ∈ r.wr → 1 ≤ q ∧ q ≤ (ks.length : Int)
theorem vo_none {p : Pg} {ks : List Kind} (h : Vo p ks none) : mayB ks ∧ mayOk p = true ∧ ∀ k (hk : k < (rosOf p).length), Gd p ks (rosOf p)[k] := by
  rcases h with ⟨-, e⟩ | ⟨-, -, e⟩ | ⟨h1, h2, on, f1, h3⟩
  · cases e
  · cases e
  · refine ⟨h1, h2, fun k hk => ?_⟩
    rcases h3 with ⟨_, _, e⟩ | ⟨rfl, o1, t1, h4⟩
    · cases e
    · rcases h4 with ⟨_, _, e⟩ | ⟨rfl, on2, -, h5⟩
      · cases e
      · rcases h5 with ⟨_, _, e⟩ | ⟨rfl, o3, d3, h6⟩
        · cases e
        · rcases h6 with ⟨_, _, e⟩ | ⟨rfl, rn⟩
          · cases e
          · have hall := ros_all h2 _ (List.getElem_mem hk)
            have hkin := sets_kinds h2 f1 _ (List.getElem_mem hk)
            rcases d3 with ⟨-, d3⟩ | ⟨_, _, _, ⟨_, e⟩ | ⟨_, _, _, e⟩⟩
            · rcases t1 with ⟨-, t1⟩ | ⟨_, _, _, _, _, e⟩
              · rcases rn with ⟨-, rn⟩ | ⟨_, _, _, _, _, e⟩
                · refine ⟨(d3 k hk).1, by omega, (d3 k hk).2, fun a ha => ?_, fun a ha hr hc => rn k hk a ha ⟨hr, hc⟩, hkin.1⟩
                  cases hb : mtI p.fns.length ks (rosOf p)[k] a with
                  | true => rfl
                  | false => exact absurd ⟨hk, a, ha, .inl hb⟩ (t1 k hk)
                · cases e
              · cases e
            · cases e
            · cases e
section
variable {p : Pg} {ks : List Kind} {r : Ro}
theorem Gd.ok (h : Gd p ks r) {a d : Nat} (hr : Rch p.fns r.rt.code a d) : a < r.rt.code.length ∧ dpR p.fns r.rt.code a = (d : Int) ∧ (isJ (iat r.rt.code a) = true → thereI r.rt.code (iat r.rt.code a).a = true) ∧ (∃ d', behI p.fns r.rt.code a d = some d') ∧ ∀ x ∈ nextI r.rt.code a, 0 ≤ x ∧ x < r.rt.code.length := by
  have hpos : 0 < r.rt.code.length := by
    have := h.ne
    cases hc : r.rt.code with
    | nil => exact absurd hc this
    | cons _ _ => simp
  have ha := (hr.lt hpos).1
  have hw : wrR 150 151 153 p.fns r.rt.code a = 0 := by
    apply Classical.byContradiction
    intro c
    exact h.dpo a ha ⟨⟨d, hr⟩, c⟩
  obtain ⟨-, h2, h3, h4, h5⟩ := wrR_ok (by decide) (by decide) (by decide) hr hw
  exact ⟨ha, h2, h3, h4, h5⟩
/-- What may come behind an instruction. -/
theorem Gd.next (h : Gd p ks r) {a d d' : Nat} (hr : Rch p.fns r.rt.code a d) (hb : behI p.fns r.rt.code a d = some d') {y : Nat} (hy : (y : Int) ∈ nextI r.rt.code a) : y ∈ onwI r.rt.code a ∧ Rch p.fns r.rt.code y d' := by
  have h5 := (h.ok hr).2.2.2.2 _ hy
  have hm : y ∈ onwI r.rt.code a := by
    unfold onwI
    refine List.mem_map.2 ⟨(y : Int), List.mem_filter.2 ⟨hy, decide_eq_true h5⟩, by simp⟩
  exact ⟨hm, hr.on hb hm⟩
theorem beh_some {fs : List Rt} {c : List Ins} {a d d' : Nat} (h : behI fs c a d = some d') : ¬ (d : Int) < takE fs (iat c a) ∧ (d : Int) - takE fs (iat c a) + putE (iat c a) = (d' : Int) ∧ (d' : Int) ≤ 64 := by
  unfold behI at h
  split at h
  · cases h
  · split at h
    · rename_i h1 h2
      have h3 : 0 ≤ putE (iat c a) := by unfold putE; omega
      simp only [Option.some.injEq] at h
      exact ⟨h1, by omega, by omega⟩
    · cases h
/-- The way since the last step. -/
structure Wy (p : Pg) (r : Ro) (l : List Nat) (a : Nat) : Prop where
  ch : Chain (Eg (stl r.rt.code r.rt.code.length)) l
  ok : ∀ x ∈ l, x < r.rt.code.length ∧ Rcd p.fns r.rt.code x
  last : ∀ (h0 : 0 < l.length), a ∈ Eg (stl r.rt.code r.rt.code.length) (l[l.length - 1]'(by omega))
theorem Wy.start (a : Nat) : Wy p r [] a := ⟨fun i h => absurd h (by simp), fun x hx => (by cases hx), fun h => absurd h (by simp)⟩
theorem Wy.short (h : Gd p ks r) {l : List Nat} {a : Nat} (hw : Wy p r l a) : l.length ≤ r.rt.code.length := hw.ch.short (fun x hx => (hw.ok x hx).1) (fun x hx => h.cyc x (hw.ok x hx).1 (hw.ok x hx).2)
/-- One more, that is no step. -/
theorem Wy.more {l : List Nat} {a y d : Nat} (hw : Wy p r l a) (ha : a < r.rt.code.length) (hr : Rch p.fns r.rt.code a d) (h1 : (iat r.rt.code a).op ≠ 24) (h2 : (iat r.rt.code a).op ≠ 21) (hy : y ∈ onwI r.rt.code a) : Wy p r (l ++ [a]) y := by
  refine ⟨hw.ch.snoc hw.last, fun x hx => ?_, fun h0 => ?_⟩
  · rw [List.mem_append, List.mem_singleton] at hx
    rcases hx with hx | rfl
    · exact hw.ok x hx
    · exact ⟨ha, d, hr⟩
  · have e : (l ++ [a])[(l ++ [a]).length - 1]'(by omega) = a := by simp
    rw [e, Eg_at (by simp [stl]; exact ha)]
    simp only [stl, List.getElem_map, List.getElem_range]
    rw [if_pos ha]
    unfold stlI
    rw [if_pos ⟨h1, h2⟩]
    exact hy
theorem Wy.mid (h : Gd p ks r) {l : List Nat} {a d : Nat} (hw : Wy p r l a) (ha : a < r.rt.code.length) (hr : Rch p.fns r.rt.code a d) : l.length + 1 ≤ r.rt.code.length := by
  have hc := hw.ch.snoc hw.last
  have := hc.short (n := r.rt.code.length) (fun x hx => by
    rw [List.mem_append, List.mem_singleton] at hx
    rcases hx with hx | rfl
    · exact (hw.ok x hx).1
    · exact ha) (fun x hx => by
    rw [List.mem_append, List.mem_singleton] at hx
    rcases hx with hx | rfl
    · exact h.cyc x (hw.ok x hx).1 (hw.ok x hx).2
    · exact h.cyc x ha ⟨d, hr⟩)
  rw [List.length_append, List.length_singleton] at this
  exact this
end
end Go.Proofs.YtfkhhplcogedmaaGreatDoor

/-
  Verify: the three programs of the law's shown, plain.
-/
namespace Go.Proofs.YtfkhhplcogedmaaGreatDoor
def smK : List Kind := [(⟨#[80, 111, 115]⟩, [⟨#[120]⟩]), (⟨#[86, 101, 108]⟩, [⟨#[120]⟩])]
def onP (c : List Ins) : Pg := ⟨[⟨[], [], [2], [1], ⟨⟨#[115]⟩, 0, 0, c⟩⟩], []⟩
def cd1 : List Ins := [⟨24, 0⟩, ⟨4, 8⟩, ⟨4, 16⟩, ⟨6, 0⟩, ⟨5, 8⟩, ⟨23, 0⟩]
def cd2 : List Ins := [⟨24, 0⟩, ⟨4, 8⟩, ⟨4, 16⟩, ⟨6, 0⟩, ⟨5, 16⟩, ⟨23, 0⟩]
def cd3 : List Ins := [⟨19, 0⟩]
section
variable {fs : List Rt} {c : List Ins} {S : List (Nat × Nat)}
theorem rch_in (h0 : ((0, 0) : Nat × Nat) ∈ S) (hs : ∀ m ∈ S, ∀ y ∈ momI fs c m.1 m.2, y ∈ S) : ∀ k p d, rch fs c k p d → (p, d) ∈ S
  | 0, _, _, ⟨rfl, rfl⟩ => h0
  | k + 1, p, d, ⟨p', d', h1, h2, h3⟩ => hs (p', d') (rch_in h0 hs k p' d' h1) (p, d) (momI_of h2 h3)
theorem Rch_in (h0 : ((0, 0) : Nat × Nat) ∈ S) (hs : ∀ m ∈ S, ∀ y ∈ momI fs c m.1 m.2, y ∈ S) {p d : Nat} (h : Rch fs c p d) : (p, d) ∈ S := h.elim fun k hk => rch_in h0 hs k p d hk
theorem dpo_none (h0 : ((0, 0) : Nat × Nat) ∈ S) (hs : ∀ m ∈ S, ∀ y ∈ momI fs c m.1 m.2, y ∈ S) (h1 : ∀ m ∈ S, ∀ m' ∈ S, m.1 = m'.1 → m.2 = m'.2)
    (h2 : ∀ m ∈ S, (behI fs c m.1 m.2).isSome = true ∧ (isJ (iat c m.1) && !thereI c (iat c m.1).a) = false ∧ ¬ (onwI c m.1).length < (nextI c m.1).length) : Dpo 150 151 153 fs c none ∧ ∀ p, ¬ Bad fs c p := by
  have hb : ∀ p, ¬ Bad fs c p := by
    rintro p (⟨d, h3, h4⟩ | ⟨d, d', h3, h4, h5⟩)
    · have := (h2 _ (Rch_in h0 hs h3)).1
      dsimp only at this
      rw [h4] at this
      cases this
    · exact h5 (h1 _ (Rch_in h0 hs h3) _ (Rch_in h0 hs h4) rfl)
  refine ⟨?_, hb⟩
  rintro p hp ⟨⟨d, hd⟩, hw⟩
  obtain ⟨-, h4, h5⟩ := h2 _ (Rch_in h0 hs hd)
  dsimp only at h4 h5
  apply hw
  unfold wrR
  rw [if_neg (by rw [h4]; decide), if_neg (hb p), if_neg h5]
end
theorem isW_x : isW ⟨#[120]⟩ := ⟨by decide, by decide, by decide, by decide⟩
theorem smK_may : mayB smK := by
  refine ⟨by decide, by decide, ?_, ?_, by decide⟩
  · intro k hk
    have : k.2 = [⟨#[120]⟩] := by
      simp only [smK, List.mem_cons, List.not_mem_nil, or_false] at hk
      rcases hk with rfl | rfl <;> rfl
    refine ⟨by rw [this]; decide, ?_, by rw [this]; decide⟩
    rw [this]
    intro x hx
    rw [List.mem_singleton.1 hx]
    exact isW_x
  · intro x hx
    simp only [smK, List.map_cons, List.map_nil, List.mem_cons, List.not_mem_nil, or_false] at hx
    rcases hx with rfl | rfl
    · exact ⟨by decide, by decide, by decide, by decide⟩
    · exact ⟨by decide, by decide, by decide, by decide⟩
theorem onP_ros (c : List Ins) : rosOf (onP c) = [⟨⟨⟨#[115]⟩, 0, 0, c⟩, 0, true, [2], [1]⟩] := by
  simp [rosOf, roS, roF, onP, sumS]
abbrev onR (c : List Ins) : Ro := ⟨⟨⟨#[115]⟩, 0, 0, c⟩, 0, true, [2], [1]⟩
/-- What is left to ask of such a program. -/
theorem vo_on {c : List Ins} {o : Option (Int × Int)} (hm : mayOk (onP c) = true) (h : Vo (onP c) smK o) : ∃ o1, TcO 0 smK [onR c] o1 ∧ ((∃ x, o1 = some x ∧ o = some x) ∨ (o1 = none ∧ ∃ o3, DaO [] [onR c] o3 ∧ ((∃ x, o3 = some x ∧ o = some x) ∨ (o3 = none ∧ RnO [] [onR c] o)))) := by
  rcases h with ⟨h, -⟩ | ⟨-, h, -⟩ | ⟨-, -, on, h1, h2⟩
  · exact absurd smK_may h
  · rw [hm] at h
    cases h
  · have : on = none := by
      cases on with
      | none => rfl
      | some i =>
        obtain ⟨hi, ⟨_, k, hk, hk2⟩, -⟩ := h1
        have hi' : i = 0 := by
          have : i < 1 := hi
          omega
        subst hi'
        have : k = 2 ∨ k = 1 := by simpa [onP] using hk
        have e : (smK.length : Int) = 2 := rfl
        rw [e] at hk2
        omega
    subst this
    rcases h2 with ⟨n, e, -⟩ | ⟨-, o1, h3, h4⟩
    · cases e
    rw [onP_ros] at h3
    refine ⟨o1, h3, ?_⟩
    rcases h4 with h4 | ⟨e, on, h5, h6⟩
    · exact .inl h4
    refine .inr ⟨e, ?_⟩
    rcases h6 with ⟨n, rfl, -⟩ | ⟨-, o3, h7, h8⟩
    · exact absurd h5.1 (Nat.not_lt_zero _)
    rw [onP_ros] at h7 h8
    exact ⟨o3, h7, h8⟩
theorem tco_none {c : List Ins} {o : Option (Int × Int)} (hn : ∀ a ∈ List.range c.length, mtI 0 smK (onR c) a = true ∧ (isJ (iat c a) && bhpI c (iat c a).a) = false) (h : TcO 0 smK [onR c] o) : o = none := by
  rcases h with ⟨h, -⟩ | ⟨n, a, hn1, -, ⟨h1, h2, -⟩, -⟩
  · exact h
  · have e : n = 0 := by
      have : n < 1 := hn1
      omega
    subst e
    have h1' : a < c.length := h1
    obtain ⟨h3, h4⟩ := hn a (List.mem_range.2 h1')
    rcases h2 with h2 | h2
    · have : mtI 0 smK (onR c) a = false := h2
      rw [h3] at this
      cases this
    · have : (isJ (iat c a) && bhpI c (iat c a).a) = true := h2
      rw [h4] at this
      cases this
theorem dao_none {c : List Ins} {o : Option (Int × Int)} (h0 : c ≠ []) (hd : Dpo 150 151 153 [] c none) (h : DaO [] [onR c] o) : o = none := by
  rcases h with ⟨h, -⟩ | ⟨n, hn, -, h⟩
  · exact h
  · have e : n = 0 := by
      have : n < 1 := hn
      omega
    subst e
    rcases h with ⟨h, -⟩ | ⟨a, -, h, -⟩
    · exact absurd h h0
    · have := Fst.unique hd h fun i _ => Iff.rfl
      cases this
theorem pth_up {E : Nat → List Nat} (h : ∀ x, ∀ y ∈ E x, x < y) : ∀ k a b, pth E k a b → a ≤ b
  | 0, a, b, e => Nat.le_of_eq e
  | k + 1, a, b, ⟨x, hx, e⟩ => by
    have := h a x hx
    have := pth_up h k x b e
    omega
theorem no_cyc {E : Nat → List Nat} (h : ∀ x, ∀ y ∈ E x, x < y) (a : Nat) : ¬ Cyc E a := by
  rintro ⟨k, x, hx, e⟩
  have := h a x hx
  have := pth_up h k x a e
  omega
theorem vo1 {o : Option (Int × Int)} (h : Vo (onP cd1) smK o) : o = none := by
  obtain ⟨o1, h1, h2⟩ := vo_on (by decide) h
  obtain rfl := tco_none (by decide) h1
  rcases h2 with ⟨_, e, -⟩ | ⟨-, o3, h3, h4⟩
  · cases e
  obtain rfl := dao_none (by decide) (dpo_none (S := [(0, 0), (1, 0), (2, 1), (3, 2), (4, 1), (5, 0)]) (by decide) (by decide) (by decide) (by decide)).1 h3
  rcases h4 with ⟨_, e, -⟩ | ⟨-, h4⟩
  · cases e
  rcases h4 with ⟨h4, -⟩ | ⟨n, a, hn, -, ⟨-, ⟨-, h5⟩, -⟩, -⟩
  · exact h4
  · have e : n = 0 := by
      have : n < 1 := hn
      omega
    subst e
    refine absurd h5 (no_cyc (fun x y hy => ?_) a)
    have hx : x < 6 := by
      apply Classical.byContradiction
      intro c
      have : Eg (stl cd1 cd1.length) x = [] := by
        unfold Eg
        rw [List.getD_eq_getElem?_getD, List.getElem?_eq_none (by show 6 ≤ x; omega)]
        rfl
      have hy' : y ∈ Eg (stl cd1 cd1.length) x := hy
      rw [this] at hy'
      cases hy'
    have : ∀ x ∈ List.range 6, ∀ y ∈ Eg (stl cd1 cd1.length) x, x < y := by decide
    exact this x (List.mem_range.2 hx) y hy
theorem vo2 {o : Option (Int × Int)} (h : Vo (onP cd2) smK o) : o = some (4, 152) := by
  obtain ⟨o1, h1, h2⟩ := vo_on (by decide) h
  have e4 : TB 0 smK (onR cd2) 4 := .inl (by decide)
  rcases h1 with ⟨-, h1⟩ | ⟨n, a, hn, -, ⟨ha, h3, h4⟩, rfl⟩
  · exact absurd ⟨by decide, 4, by decide, e4⟩ (h1 0 (by decide))
  have e : n = 0 := by
    have : n < 1 := hn
    omega
  subst e
  have h5 : ∀ a ∈ List.range 6, a ≠ 4 → mtI 0 smK (onR cd2) a = true ∧ (isJ (iat cd2 a) && bhpI cd2 (iat cd2 a).a) = false := by decide
  have ha' : a < 6 := ha
  have : a = 4 := by
    apply Classical.byContradiction
    intro c
    obtain ⟨h6, h7⟩ := h5 a (List.mem_range.2 ha') c
    rcases h3 with h3 | h3
    · have : mtI 0 smK (onR cd2) a = false := h3
      rw [h6] at this
      cases this
    · have : (isJ (iat cd2 a) && bhpI cd2 (iat cd2 a).a) = true := h3
      rw [h7] at this
      cases this
  subst this
  rcases h2 with ⟨x, e, rfl⟩ | ⟨e, -⟩
  · rw [← e]
    show some ((((0 : Nat) : Int) + ((4 : Nat) : Int), tbE 0 smK (onR cd2) 4) : Int × Int) = some (4, 152)
    decide
  · cases e
theorem vo3 {o : Option (Int × Int)} (h : Vo (onP cd3) smK o) : o = some (0, 153) := by
  obtain ⟨o1, h1, h2⟩ := vo_on (by decide) h
  obtain rfl := tco_none (by decide) h1
  rcases h2 with ⟨_, e, -⟩ | ⟨-, o3, h3, h4⟩
  · cases e
  obtain rfl := dao_none (by decide) (dpo_none (S := [(0, 0)]) (by decide) (by decide) (by decide) (by decide)).1 h3
  rcases h4 with ⟨_, e, -⟩ | ⟨-, h4⟩
  · cases e
  rcases h4 with ⟨-, h4⟩ | ⟨n, a, hn, -, ⟨ha, -, -⟩, rfl⟩
  · exact absurd ⟨⟨0, Rch.zero⟩, 0, 0, by decide, rfl⟩ (h4 0 (by decide) 0 (by decide))
  · have e : n = 0 := by
      have : n < 1 := hn
      omega
    subst e
    have e : a = 0 := by
      have : a < 1 := ha
      omega
    subst e
    rfl
/-- The depths of the first. -/
theorem dp1 {o : Option Nat} (h : Dpo 150 151 153 [] cd1 o) : o = none ∧ dpR [] cd1 3 = 2 ∧ dpR [] cd1 5 = 0 := by
  obtain ⟨h1, h2⟩ := dpo_none (fs := []) (c := cd1) (S := [(0, 0), (1, 0), (2, 1), (3, 2), (4, 1), (5, 0)]) (by decide) (by decide) (by decide) (by decide)
  have r1 : Rch [] cd1 1 0 := Rch.zero.on (d' := 0) (by decide) (by decide)
  have r2 : Rch [] cd1 2 1 := r1.on (by decide) (by decide)
  have r3 : Rch [] cd1 3 2 := r2.on (by decide) (by decide)
  have r4 : Rch [] cd1 4 1 := r3.on (by decide) (by decide)
  have r5 : Rch [] cd1 5 0 := r4.on (by decide) (by decide)
  exact ⟨(Fst.unique h1 h fun i _ => Iff.rfl).symm, dpR_of r3 (h2 3), dpR_of r5 (h2 5)⟩
end Go.Proofs.YtfkhhplcogedmaaGreatDoor

/-
  Verify: the law's small and one.
-/
namespace Go.Proofs.YtfkhhplcogedmaaGreatDoor
open Go.RowKit
set_option maxRecDepth 100000
set_option maxHeartbeats 4000000 in
theorem small_any (W : World) : Calls Tryz.prog 11 #[] W fun e w' => (∃ g, e = .returned (.slice (some ⟨g, 0, none⟩) 2 2) ∧ Kr w' (.slice (some ⟨g, 0, none⟩) 2 2) smK) ∧ Below W.heap.size W w' := by
  obtain ⟨w1, hw1⟩ : ∃ X, X = W.alloc (.cells #[.string ⟨#[120]⟩] 9) := ⟨_, rfl⟩
  obtain ⟨w2, hw2⟩ : ∃ X, X = w1.alloc (.cells #[.string ⟨#[120]⟩] 9) := ⟨_, rfl⟩
  obtain ⟨w3, hw3⟩ : ∃ X, X = w2.alloc (.cells #[.string ⟨#[80, 111, 115]⟩, .slice (some ⟨W.heap.size, 0, none⟩) 1 1, .string ⟨#[86, 101, 108]⟩, .slice (some ⟨W.heap.size + 1, 0, none⟩) 1 1] 63) := ⟨_, rfl⟩
  have s1 : w1.heap.size = W.heap.size + 1 := by rw [hw1]; exact Array.size_push ..
  have s2 : w2.heap.size = W.heap.size + 1 + 1 := by rw [hw2, ← s1]; exact Array.size_push ..
  have b1 : Below W.heap.size W w1 := hw1 ▸ below_alloc W _
  have b2 : Below w1.heap.size w1 w2 := hw2 ▸ below_alloc w1 _
  have b3 : Below w2.heap.size w2 w3 := hw3 ▸ below_alloc w2 _
  have n1 : w1.heap[W.heap.size]? = some (.cells #[.string ⟨#[120]⟩] 9 (0, 0)) := by rw [hw1]; exact heap_alloc_new W _
  have n2 : w2.heap[W.heap.size + 1]? = some (.cells #[.string ⟨#[120]⟩] 9 (0, 0)) := by rw [hw2, ← s1]; exact heap_alloc_new w1 _
  have n3 : w3.heap[W.heap.size + 1 + 1]? = some (.cells #[.string ⟨#[80, 111, 115]⟩, .slice (some ⟨W.heap.size, 0, none⟩) 1 1, .string ⟨#[86, 101, 108]⟩, .slice (some ⟨W.heap.size + 1, 0, none⟩) 1 1] 63 (0, 0)) := by rw [hw3, ← s2]; exact heap_alloc_new w2 _
  have m1 := (b3.block _ (lt_of_block ((b2.block _ (lt_of_block n1)).trans n1))).trans ((b2.block _ (lt_of_block n1)).trans n1)
  have m2 := (b3.block _ (lt_of_block n2)).trans n2
  have KR : Hid (Kr w3 (.slice (some ⟨W.heap.size + 1 + 1, 0, none⟩) 2 2) smK) := by
    refine ⟨_, 2, rfl, by decide, by decide, fun i hi => ?_⟩
    match i, hi with
    | 0, _ =>
      refine ⟨_, 0, .slice (some ⟨W.heap.size, 0, none⟩) 1 1, rfl, ?_, ?_, _, 1, rfl, Nat.le_refl 1, by decide, fun j hj => ?_⟩
      · rw [cell_of_row w3 _ _ _ 63 (0, 0) n3]; rfl
      · rw [cell_of_row w3 _ _ _ 63 (0, 0) n3]; rfl
      · match j, hj with
        | 0, _ => exact ⟨_, 0, rfl, by rw [cell_of_row w3 _ _ _ 9 (0, 0) m1]; rfl⟩
    | 1, _ =>
      refine ⟨_, 0, .slice (some ⟨W.heap.size + 1, 0, none⟩) 1 1, rfl, ?_, ?_, _, 1, rfl, Nat.le_refl 1, by decide, fun j hj => ?_⟩
      · rw [cell_of_row w3 _ _ _ 63 (0, 0) n3]; rfl
      · rw [cell_of_row w3 _ _ _ 63 (0, 0) n3]; rfl
      · match j, hj with
        | 0, _ => exact ⟨_, 0, rfl, by rw [cell_of_row w3 _ _ _ 9 (0, 0) m2]; rfl⟩
  have B := hide (below_on (below_on b1 b2) b3)
  go_enter Tryz.func11, Tryz.ntmps11
  go_wp2_with fail
  rw [← hw1, ← hw2, ← hw3]
  go_ret
  exact ⟨⟨_, rfl, KR.out⟩, B.out⟩
theorem undPg1 : (Tryz.prog.underlying 25).map (fun d => match d with | .struct _ | .array _ _ => true | _ => false) = some true := by kernel_rfl
theorem res_pg1 {fn : Func} {p : Tmp} (hr : fn.results = #[.cell p 25]) {tmps : Array Value} {W : World} {g : Nat} {x y : Value} (hp : tmps.getD p undef = .pointer (some ⟨g, 0, none⟩)) (hg : W.heap[g]? = some (.cells #[x, y] 25 (0, 0))) : (results fn tmps).run Tryz.prog W = .ok (.agg #[x, y]) W := by
  obtain ⟨d, hu, hd⟩ := Option.map_eq_some_iff.1 undPg1
  exact results_cell_row hr tmps W g 25 _ (0, 0) d hp hg hu (by cases d <;> first | rfl | cases hd) (by kernel_rfl)
/-- A program of one system, as one makes it. -/
def On (N : Nat) (W : World) (g : Nat) (vc : Value) : Prop := ∃ a b, (N ≤ g ∧ N ≤ a ∧ N ≤ b) ∧ W.heap[g]? = some (.cells #[.slice none 0 0, .slice none 0 0, .slice (some ⟨a, 0, none⟩) 1 1, .slice (some ⟨b, 0, none⟩) 1 1, .string ⟨#[115]⟩, .int .i64 0, .int .i64 0, vc] 38 (0, 0)) ∧ W.heap[a]? = some (.cells #[.int .i64 2] 3 (0, 0)) ∧ W.heap[b]? = some (.cells #[.int .i64 1] 3 (0, 0))
theorem On.later {N : Nat} {W W' : World} {g : Nat} {vc : Value} (h : On N W g vc) (hb : Below W.heap.size W W') : On N W' g vc := by
  obtain ⟨a, b, h0, h1, h2, h3⟩ := h
  exact ⟨a, b, h0, (hb.block _ (lt_of_block h1)).trans h1, (hb.block _ (lt_of_block h2)).trans h2, (hb.block _ (lt_of_block h3)).trans h3⟩
theorem On.mv {N q : Nat} {W W' : World} {g : Nat} {vc : Value} (h : On N W g vc) (hm : Mv W W' (fun k => k = q)) (hq : q < N) : On N W' g vc := by
  obtain ⟨a, b, h0, h1, h2, h3⟩ := h
  exact ⟨a, b, h0, hm.at h1 (fun e => by omega), hm.at h2 (fun e => by omega), hm.at h3 (fun e => by omega)⟩
theorem On.cell {N : Nat} {W : World} {g : Nat} {vc : Value} (h : On N W g vc) : W.cell? ⟨g, 4, none⟩ = some (.string ⟨#[115]⟩) ∧ W.cell? ⟨g, 5, none⟩ = some (.int .i64 0) ∧ W.cell? ⟨g, 6, none⟩ = some (.int .i64 0) ∧ W.cell? ⟨g, 7, none⟩ = some vc := by
  obtain ⟨a, b, -, h1, -, -⟩ := h
  refine ⟨?_, ?_, ?_, ?_⟩ <;> rw [cell_of_row W _ _ _ 38 (0, 0) h1] <;> rfl
theorem On.pgm {N : Nat} {W : World} {g : Nat} {vc : Value} {c : List Ins} (h : On N W g vc) (hc : Il (fun _ => True) W vc c) : Pgm (fun _ => True) W (.slice (some ⟨g, 0, none⟩) 1 1) (.slice none 0 0) (onP c) := by
  obtain ⟨a, b, -, h1, h2, h3⟩ := h
  have k : ∀ j, W.cell? ⟨g, j, none⟩ = (#[Value.slice none 0 0, .slice none 0 0, .slice (some ⟨a, 0, none⟩) 1 1, .slice (some ⟨b, 0, none⟩) 1 1, .string ⟨#[115]⟩, .int .i64 0, .int .i64 0, vc] : Array Value)[j]? := fun j => cell_of_row W _ _ _ 38 (0, 0) h1
  refine ⟨⟨_, 1, rfl, Nat.le_refl 1, by decide, fun _ => ⟨g, 0, rfl, trivial, fun i hi => ?_⟩⟩, ⟨_, 0, rfl, Nat.le_refl 0, by decide, fun h0 => absurd h0 (Nat.lt_irrefl 0)⟩⟩
  match i, hi with
  | 0, _ =>
    refine ⟨(⟨by decide, by decide⟩ : I6 0), (⟨by decide, by decide⟩ : I6 0), .slice none 0 0, .slice none 0 0, .slice (some ⟨a, 0, none⟩) 1 1, .slice (some ⟨b, 0, none⟩) 1 1, vc, k _, k _, k _, k _, k _, k _, k _, k _, ?_, ?_, ?_, ?_, hc⟩
    · exact ⟨_, 0, rfl, Nat.le_refl 0, by decide, fun h0 => absurd h0 (Nat.lt_irrefl 0)⟩
    · exact ⟨_, 0, rfl, Nat.le_refl 0, by decide, fun h0 => absurd h0 (Nat.lt_irrefl 0)⟩
    · refine ⟨_, 1, rfl, Nat.le_refl 1, by decide, fun _ => ⟨a, 0, rfl, trivial, fun j hj => ?_⟩⟩
      match j, hj with
      | 0, _ => exact ⟨(⟨by decide, by decide⟩ : I6 2), by rw [cell_of_row W _ _ _ 3 (0, 0) h2]; rfl⟩
    · refine ⟨_, 1, rfl, Nat.le_refl 1, by decide, fun _ => ⟨b, 0, rfl, trivial, fun j hj => ?_⟩⟩
      match j, hj with
      | 0, _ => exact ⟨(⟨by decide, by decide⟩ : I6 1), by rw [cell_of_row W _ _ _ 3 (0, 0) h3]; rfl⟩
set_option maxHeartbeats 4000000 in
theorem one_any (W : World) (a : Option Addr) (n c : Nat) : Calls Tryz.prog 8 #[.slice a n c] W fun e w' => (∃ g, e = .returned (.agg #[.slice (some ⟨g, 0, none⟩) 1 1, .slice none 0 0]) ∧ On W.heap.size w' g (.slice a n c)) ∧ Below W.heap.size W w' := by
  obtain ⟨w1, hw1⟩ : ∃ X, X = W.alloc (.cells #[.slice (some ⟨W.heap.size + 1 + 1 + 1, 0, none⟩) 1 1, .slice none 0 0] 25) := ⟨_, rfl⟩
  obtain ⟨w2, hw2⟩ : ∃ X, X = w1.alloc (.cells #[.int .i64 2] 3) := ⟨_, rfl⟩
  obtain ⟨w3, hw3⟩ : ∃ X, X = w2.alloc (.cells #[.int .i64 1] 3) := ⟨_, rfl⟩
  obtain ⟨w4, hw4⟩ : ∃ X, X = w3.alloc (.cells #[.slice none 0 0, .slice none 0 0, .slice (some ⟨W.heap.size + 1, 0, none⟩) 1 1, .slice (some ⟨W.heap.size + 1 + 1, 0, none⟩) 1 1, .string ⟨#[115]⟩, .int .i64 0, .int .i64 0, .slice a n c] 38) := ⟨_, rfl⟩
  have s1 : w1.heap.size = W.heap.size + 1 := by rw [hw1]; exact Array.size_push ..
  have s2 : w2.heap.size = W.heap.size + 1 + 1 := by rw [hw2, ← s1]; exact Array.size_push ..
  have s3 : w3.heap.size = W.heap.size + 1 + 1 + 1 := by rw [hw3, ← s2]; exact Array.size_push ..
  have b1 : Below W.heap.size W w1 := hw1 ▸ below_alloc W _
  have b2 : Below w1.heap.size w1 w2 := hw2 ▸ below_alloc w1 _
  have b3 : Below w2.heap.size w2 w3 := hw3 ▸ below_alloc w2 _
  have b4 : Below w3.heap.size w3 w4 := hw4 ▸ below_alloc w3 _
  have n1 : w1.heap[W.heap.size]? = some (.cells #[.slice (some ⟨W.heap.size + 1 + 1 + 1, 0, none⟩) 1 1, .slice none 0 0] 25 (0, 0)) := by rw [hw1]; exact heap_alloc_new W _
  have n2 : w2.heap[W.heap.size + 1]? = some (.cells #[.int .i64 2] 3 (0, 0)) := by rw [hw2, ← s1]; exact heap_alloc_new w1 _
  have n3 : w3.heap[W.heap.size + 1 + 1]? = some (.cells #[.int .i64 1] 3 (0, 0)) := by rw [hw3, ← s2]; exact heap_alloc_new w2 _
  have n4 : w4.heap[W.heap.size + 1 + 1 + 1]? = some (.cells #[.slice none 0 0, .slice none 0 0, .slice (some ⟨W.heap.size + 1, 0, none⟩) 1 1, .slice (some ⟨W.heap.size + 1 + 1, 0, none⟩) 1 1, .string ⟨#[115]⟩, .int .i64 0, .int .i64 0, .slice a n c] 38 (0, 0)) := by rw [hw4, ← s3]; exact heap_alloc_new w3 _
  have b34 := below_on b3 b4
  have b24 := below_on b2 b34
  have m1 := hide ((b24.block _ (lt_of_block n1)).trans n1)
  have m2 := (b34.block _ (lt_of_block n2)).trans n2
  have m3 := (b4.block _ (lt_of_block n3)).trans n3
  have ON : Hid (On W.heap.size w4 (W.heap.size + 1 + 1 + 1) (.slice a n c)) := ⟨_, _, ⟨by omega, by omega, by omega⟩, n4, m2, m3⟩
  have B := hide (below_on b1 b24)
  go_enter Tryz.func8, Tryz.ntmps8
  go_wp2_with fail
  rw [← hw1, ← hw2, ← hw3, ← hw4]
  exact bodyPost_ret (res_pg1 rfl rfl m1.out) rfl ⟨⟨_, rfl, ON.out⟩, B.out⟩
end Go.Proofs.YtfkhhplcogedmaaGreatDoor

/-
  Verify: the law's pick and fault.
-/
namespace Go.Proofs.YtfkhhplcogedmaaGreatDoor
open Go.RowKit
set_option maxRecDepth 100000
theorem lpick_any (c : Int) (hc : I6 c) (n : Nat) (h0 : 0 < n) (hn : n ≤ 1000000) (W : World) : Calls Tryz.prog 7 #[.int .i64 c, .int .i64 (n : Int)] W fun e w' => (∃ k : Nat, k < n ∧ e = .returned (.int .i64 (k : Int))) ∧ w' = W := by
  have key : ∀ x : Int, 0 ≤ x → x ≤ 9223372036854775807 → ∃ k : Nat, k < n ∧ x.tmod (n : Int) = (k : Int) := fun x hx _ => by
    refine ⟨(x.tmod n).toNat, ?_, ?_⟩
    · rw [Int.tmod_eq_emod_of_nonneg hx]
      have h1 := Int.emod_lt_of_pos x (show (0 : Int) < (n : Int) by omega)
      have h2 := Int.emod_nonneg x (show (n : Int) ≠ 0 by omega)
      omega
    · rw [Int.tmod_eq_emod_of_nonneg hx]
      have h2 := Int.emod_nonneg x (show (n : Int) ≠ 0 by omega)
      omega
  unfold I6 at hc
  have hn0 : ((n : Int) == 0) = false := beq_eq_false_iff_ne.2 (by omega)
  have hn1 : ¬ (n : Int) = 0 := by omega
  by_cases c0 : c < 0
  · obtain ⟨k, hk, e⟩ := key (-(c + 1)) (by omega) (by omega)
    have t1 : IntKind.i64.wrap (c + 1) = c + 1 := by rw [IntKind.wrap_i64]; omega
    have t2 : IntKind.i64.wrap (-(c + 1)) = -(c + 1) := by rw [IntKind.wrap_i64]; omega
    have HK : Hid (k < n) := hk
    clear key
    go_enter Tryz.func7, Tryz.ntmps7
    go_wp2_with fail
    go_ret
    exact ⟨⟨k, HK.out, by first | rfl | exact ret_int e | exact ret_int (by simpa using e)⟩, rfl⟩
  · obtain ⟨k, hk, e⟩ := key c (by omega) (by omega)
    have HK : Hid (k < n) := hk
    clear key
    go_enter Tryz.func7, Tryz.ntmps7
    go_wp2_with fail
    go_ret
    exact ⟨⟨k, HK.out, by first | rfl | exact ret_int e | exact ret_int (by simpa using e)⟩, rfl⟩
theorem ta_is (p : Value) (w : World) : (Instr.typeAssert (.iface 57 p) 45 57 true).run Tryz.prog w = .ok (.tuple #[p, .bool true]) w := by
  simp [Instr.typeAssert, run_underlying Tryz.underlying57, go_sem, Result.andThen]
/-- What the law makes of an error. -/
def lfV : Option (Int × Int) → Value
  | none => .tuple #[.int .i64 0, .int .i64 0, .bool true]
  | some (a, e) => .tuple #[.int .i64 a, .int .i64 e, .bool (e != 0)]
set_option maxHeartbeats 4000000 in
theorem lfault_any {W : World} {v : Value} {o : Option (Int × Int)} (h : Flt W v o) : Calls Tryz.prog 9 #[v] W fun e w' => e = .returned (lfV o) ∧ Below W.heap.size W w' := by
  cases o with
  | none =>
    obtain rfl : v = .nilIface := h
    go_enter Tryz.func9, Tryz.ntmps9
    go_wp2_with fail
    go_ret3
    exact ⟨rfl, Below.refl _ _⟩
  | some x =>
    obtain ⟨a, er⟩ := x
    obtain ⟨g, rfl, hg⟩ := h
    have c0 : W.cell? ⟨g, 0, none⟩ = some (.int .i64 a) := by rw [cell_of_row W _ _ _ 60 (0, 0) hg]; rfl
    have c1 : W.cell? ⟨g, 1, none⟩ = some (.int .i64 er) := by rw [cell_of_row W _ _ _ 60 (0, 0) hg]; rfl
    have HC : Hid (W.drew.cell? ⟨g, 0, none⟩ = some (.int .i64 a) ∧ W.drew.cell? ⟨g, 1, none⟩ = some (.int .i64 er)) := ⟨c0, c1⟩
    have hta := ta_is
    clear hg
    go_enter Tryz.func9, Tryz.ntmps9
    go_upto_region 6 with fail
    clear c0 c1
    go_region_held3 (fun V => V.cell? ⟨g, 0, none⟩ = some (.int .i64 a) ∧ V.cell? ⟨g, 1, none⟩ = some (.int .i64 er)) (exact HC.out) (fail)
    go_wp2_with fail
    go_ret3
    exact ⟨rfl, below_drew W⟩
end Go.Proofs.YtfkhhplcogedmaaGreatDoor
