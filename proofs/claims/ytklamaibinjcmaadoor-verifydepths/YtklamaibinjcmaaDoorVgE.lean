/-
  Verify: what Verify answers, plain.
-/
import Derived.Test.YtklamaibinjcmaaDoorVgD
import Derived.Test.YtklamaibinjcmaaDoorVgA
import Derived.Test.YtklamaibinjcmaaDoorVfW
import Derived.Test.YtklamaibinjcmaaDoorVwE
namespace Go.Proofs.YtklamaibinjcmaaDoor
open Go.RowKit
set_option maxRecDepth 100000
/-- What is asked behind the depths. -/
def Vo5 (p : Pg) (o : Option (Int × Int)) : Prop := ∃ o3, DaO p.fns (rosOf p) o3 ∧ ((∃ x, o3 = some x ∧ o = some x) ∨ (o3 = none ∧ RnO p.fns (rosOf p) o))
def Vo4 (p : Pg) (o : Option (Int × Int)) : Prop := ∃ on, Fst p.fns.length (Cyc (Eg (cls p.fns))) on ∧ ((∃ n, on = some n ∧ o = some (plOf p (p.sys.length + n), 115)) ∨ (on = none ∧ Vo5 p o))
def Vo3 (p : Pg) (ks : List Kind) (o : Option (Int × Int)) : Prop := ∃ o1, TcO p.fns.length ks (rosOf p) o1 ∧ ((∃ x, o1 = some x ∧ o = some x) ∨ (o1 = none ∧ Vo4 p o))
def Vo2 (p : Pg) (ks : List Kind) (o : Option (Int × Int)) : Prop := ∃ on, Fst p.sys.length (SetBad ks.length p.sys) on ∧ ((∃ n, on = some n ∧ o = some (plOf p n, 60)) ∨ (on = none ∧ Vo3 p ks o))
/-- What Verify answers. -/
def Vo (p : Pg) (ks : List Kind) (o : Option (Int × Int)) : Prop :=
  (¬ mayB ks ∧ o = some (0, 65)) ∨ (mayB ks ∧ mayOk p = false ∧ o = some (0, 130)) ∨ (mayB ks ∧ mayOk p = true ∧ Vo2 p ks o)
theorem mayOk_all {p : Pg} (h : mayOk p = true) : (p.sys.length ≤ 16 ∧ p.fns.length ≤ 16) ∧ (∀ s ∈ p.sys, sysOk s = true) ∧ (∀ r ∈ p.fns, rtOk r = true) ∧ sumS p.sys + sumR p.fns ≤ 2000 := by
  unfold mayOk at h
  simp only [Bool.and_eq_true, decide_eq_true_iff, List.all_eq_true] at h
  obtain ⟨⟨⟨h1, h2⟩, h3⟩, h4⟩ := h
  exact ⟨h1, h2, h3, h4⟩
theorem sumS_take_le (l : List Sy) (i : Nat) : sumS (l.take i) ≤ sumS l := by
  have h := congrArg sumS (List.take_append_drop i l)
  simp only [sumS, List.map_append, List.sum_append] at h ⊢
  omega
theorem sumR_take_le (l : List Rt) (i : Nat) : sumR (l.take i) ≤ sumR l := by
  have h := congrArg sumR (List.take_append_drop i l)
  simp only [sumR, List.map_append, List.sum_append] at h ⊢
  omega
/-- What is known of the routines of a program that may be written. -/
theorem ros_all {p : Pg} (h : mayOk p = true) : ∀ r ∈ rosOf p, 0 ≤ r.rt.lo ∧ r.pl + r.rt.code.length ≤ 2000 ∧ rtOk r.rt = true ∧ (∀ k, k ∈ r.re ∨ k ∈ r.wr → 1 ≤ k ∧ ∃ s ∈ p.sys, k ∈ s.wi ++ s.wo ++ s.re ++ s.wr) := by
  obtain ⟨-, h2, h3, h4⟩ := mayOk_all h
  intro r hr
  rw [rosOf, List.mem_append] at hr
  rcases hr with hr | hr
  · obtain ⟨i, hi, rfl⟩ := List.getElem_of_mem hr
    have hi' : i < p.sys.length := by rw [roS_len] at hi; exact hi
    rw [roS_at hi']
    have hs := sysOk_all (h2 p.sys[i] (List.getElem_mem hi'))
    have hr2 := rtOk_all hs.2.2.2.2
    have e1 := sumS_snoc hi'
    have e2 := sumS_take_le p.sys (i + 1)
    refine ⟨by show 0 ≤ p.sys[i].run.lo; omega, by show sumS (p.sys.take i) + p.sys[i].run.code.length ≤ 2000; omega, hs.2.2.2.2, fun k hk => ?_⟩
    dsimp only at hk
    rcases hk with hk | hk
    · exact ⟨((setOk_mem hs.2.2.1).1 k hk).1, p.sys[i], List.getElem_mem hi', by simp [hk]⟩
    · exact ⟨((setOk_mem hs.2.2.2.1).1 k hk).1, p.sys[i], List.getElem_mem hi', by simp [hk]⟩
  · obtain ⟨i, hi, rfl⟩ := List.getElem_of_mem hr
    have hi' : i < p.fns.length := by rw [roF_len] at hi; exact hi
    rw [roF_at hi']
    have hr2 := rtOk_all (h3 p.fns[i] (List.getElem_mem hi'))
    have e1 := sumR_snoc hi'
    have e2 := sumR_take_le p.fns (i + 1)
    refine ⟨by show 0 ≤ p.fns[i].lo; omega, by show sumS p.sys + sumR (p.fns.take i) + p.fns[i].code.length ≤ 2000; omega, h3 p.fns[i] (List.getElem_mem hi'), fun k hk => ?_⟩
    dsimp only at hk
    rcases hk with hk | hk <;> cases hk
theorem ros_fn {p : Pg} {n : Nat} (hn : n < p.fns.length) (hN : p.sys.length + n < (rosOf p).length) : (rosOf p)[p.sys.length + n] = ⟨p.fns[n], sumS p.sys + sumR (p.fns.take n), false, [], []⟩ := by
  have h : (rosOf p)[p.sys.length + n]? = some ⟨p.fns[n], sumS p.sys + sumR (p.fns.take n), false, [], []⟩ := by
    unfold rosOf
    rw [List.getElem?_append_right (by rw [roS_len]; omega), roS_len, Nat.add_sub_cancel_left, List.getElem?_eq_getElem (by rw [roF_len]; exact hn), roF_at hn]
  exact Option.some.inj ((List.getElem?_eq_getElem hN).symm.trans h)
theorem ros_sys {p : Pg} {n : Nat} (hn : n < p.sys.length) (hN : n < (rosOf p).length) : (rosOf p)[n] = ⟨p.sys[n].run, sumS (p.sys.take n), true, p.sys[n].re, p.sys[n].wr⟩ := by
  have h : (rosOf p)[n]? = some ⟨p.sys[n].run, sumS (p.sys.take n), true, p.sys[n].re, p.sys[n].wr⟩ := by
    unfold rosOf
    rw [List.getElem?_append_left (by rw [roS_len]; exact hn), List.getElem?_eq_getElem (by rw [roS_len]; exact hn), roS_at hn]
  exact Option.some.inj ((List.getElem?_eq_getElem hN).symm.trans h)
/-- Where no set names a kind that there is not. -/
theorem sets_kinds {p : Pg} {nk : Nat} (h : mayOk p = true) (hs : Fst p.sys.length (SetBad nk p.sys) none) : ∀ r ∈ rosOf p, (∀ k, k ∈ r.re ∨ k ∈ r.wr → 1 ≤ k ∧ k ≤ (nk : Int)) ∧ 0 ≤ r.rt.lo ∧ r.pl + r.rt.code.length ≤ 2000 := fun r hr => by
  obtain ⟨h1, h2, -, h4⟩ := ros_all h r hr
  refine ⟨fun k hk => ?_, h1, h2⟩
  obtain ⟨h5, s, hs1, hs2⟩ := h4 k hk
  refine ⟨h5, ?_⟩
  obtain ⟨n, hn, rfl⟩ := List.getElem_of_mem hs1
  have := hs n hn
  apply Classical.byContradiction
  intro c
  exact this ⟨hn, k, hs2, by omega⟩
/-- Where nothing is touched that may not be, who is called is there. -/
theorem calls_there {p : Pg} {ks : List Kind} (h : mayOk p = true) (ht : TcO p.fns.length ks (rosOf p) none) : ∀ r ∈ p.fns, r.code.length ≤ 2000 ∧ ∀ i ∈ r.code, i.op = 21 → 0 ≤ i.a ∧ i.a < (p.fns.length : Int) := fun r hr => by
  obtain ⟨-, -, h3, -⟩ := mayOk_all h
  refine ⟨(rtOk_all (h3 r hr)).2.2.2.1, fun i hi h21 => ?_⟩
  rcases ht with ⟨-, ht⟩ | ⟨_, _, _, _, _, e⟩
  · obtain ⟨n, hn, rfl⟩ := List.getElem_of_mem hr
    obtain ⟨a, ha, rfl⟩ := List.getElem_of_mem hi
    have hN : p.sys.length + n < (rosOf p).length := by rw [rosOf_len]; omega
    have hat := ros_fn hn hN
    have hb := ht (p.sys.length + n) hN
    apply Classical.byContradiction
    intro c
    refine hb ⟨hN, a, by rw [hat]; exact ha, .inl ?_⟩
    rw [hat]
    unfold mtI
    dsimp only
    have e2 : iat p.fns[n].code a = p.fns[n].code[a] := iat_eq ha
    rw [e2, h21]
    rw [if_neg (by decide), if_pos rfl]
    exact decide_eq_false c
  · cases e
end Go.Proofs.YtklamaibinjcmaaDoor
