/-
  All lists of a program that was read, as the law's own takes them together.
-/
import Derived.Test.YtpolajoephjdhaaGreatDoorIxB
import Derived.Test.YtpolajoephjdhaaGreatDoorIxA
import Derived.Test.YtpolajoephjdhaaGreatDoorBkJ
namespace Go.Proofs.YtpolajoephjdhaaGreatDoor
open Go.RowKit
set_option maxRecDepth 100000
def intLs (ls : List (Sy × Sv)) : List (List Value) := ls.flatMap fun p => [intC p.1.wi, intC p.1.wo, intC p.1.re, intC p.1.wr]
theorem intC_len (l : List Int) : (intC l).length = l.length := by simp [intC]
theorem ints_all {N : Nat} {w : World} : ∀ (ls : List (Sy × Sv)), (∀ p ∈ ls, SyOwn N w p.1 p.2.v1 p.2.v2 p.2.v3 p.2.v4 p.2.vc) → (intsOf ls).length = (intLs ls).length ∧ ∀ i (h : i < (intsOf ls).length) (h' : i < (intLs ls).length), w.ownsRow N 3 1 (intsOf ls)[i] (intLs ls)[i].length (intLs ls)[i]
  | [], _ => ⟨rfl, fun i h => absurd h (by simp [intsOf])⟩
  | p :: t, hp => by
    obtain ⟨h1, h2⟩ := ints_all t (fun q hq => hp q (List.mem_cons_of_mem _ hq))
    obtain ⟨⟨a, b, c, d, -⟩, -⟩ := hp p (List.mem_cons_self ..)
    have e1 : intsOf (p :: t) = p.2.v1 :: p.2.v2 :: p.2.v3 :: p.2.v4 :: intsOf t := rfl
    have e2 : intLs (p :: t) = intC p.1.wi :: intC p.1.wo :: intC p.1.re :: intC p.1.wr :: intLs t := rfl
    refine ⟨by rw [e1, e2]; simp [h1], ?_⟩
    intro i h h'
    have key : ∀ i (h : i < (p.2.v1 :: p.2.v2 :: p.2.v3 :: p.2.v4 :: intsOf t).length) (h' : i < (intC p.1.wi :: intC p.1.wo :: intC p.1.re :: intC p.1.wr :: intLs t).length), w.ownsRow N 3 1 (p.2.v1 :: p.2.v2 :: p.2.v3 :: p.2.v4 :: intsOf t)[i] (intC p.1.wi :: intC p.1.wo :: intC p.1.re :: intC p.1.wr :: intLs t)[i].length (intC p.1.wi :: intC p.1.wo :: intC p.1.re :: intC p.1.wr :: intLs t)[i] := by
      intro i h h'
      match i, h, h' with
      | 0, _, _ => simp only [List.getElem_cons_zero]; rw [intC_len]; exact a
      | 1, _, _ => simp only [List.getElem_cons_zero, List.getElem_cons_succ]; rw [intC_len]; exact b
      | 2, _, _ => simp only [List.getElem_cons_zero, List.getElem_cons_succ]; rw [intC_len]; exact c
      | 3, _, _ => simp only [List.getElem_cons_zero, List.getElem_cons_succ]; rw [intC_len]; exact d
      | k + 4, hk, hk' =>
        simp only [List.getElem_cons_succ]
        exact h2 k (by simp at hk; omega) (by simp at hk'; omega)
    exact key i h h'
theorem ints_mks {N : Nat} {w : World} {ls : List (Sy × Sv)} (h : SysOwn N w ls) : Mks w N (intsOf ls) (intLs ls) 0 := by
  obtain ⟨h1, h2⟩ := ints_all ls h.1
  refine ⟨h1, h.2.1, fun i a b => ?_⟩
  rw [if_neg (by omega)]
  exact h2 i a b
theorem intsOf_len (ls : List (Sy × Sv)) : (intsOf ls).length = ls.length * 4 := by
  induction ls with
  | nil => rfl
  | cons p t ih =>
    have e1 : intsOf (p :: t) = p.2.v1 :: p.2.v2 :: p.2.v3 :: p.2.v4 :: intsOf t := rfl
    rw [e1]
    simp [ih]
    omega
theorem intsOf_snoc (ls : List (Sy × Sv)) (p : Sy × Sv) : intsOf (ls ++ [p]) = intsOf ls ++ [p.2.v1, p.2.v2, p.2.v3, p.2.v4] := by simp [intsOf]
theorem codesS_snoc (ls : List (Sy × Sv)) (p : Sy × Sv) : codesS (ls ++ [p]) = codesS ls ++ [p.2.vc] := by simp [codesS]
theorem codesR_snoc (ls : List (Rt × Value)) (p : Rt × Value) : codesR (ls ++ [p]) = codesR ls ++ [p.2] := by simp [codesR]
def codLs (ls : List (Sy × Sv)) (lf : List (Rt × Value)) : List (List Ins) := (ls.map fun p => p.1.run.code) ++ lf.map fun p => p.1.code
theorem cods_mks {N : Nat} {w : World} {ls : List (Sy × Sv)} {lf : List (Rt × Value)} (h : SysOwn N w ls) (hf : RtsOwn N w lf) (hx : ∀ p ∈ ls, ∀ q ∈ lf, Ap p.2.vc q.2) : MkJ w N (codesS ls ++ codesR lf) (codLs ls lf) 0 := by
  refine ⟨by simp [codesS, codesR, codLs], ?_, fun i a b => ?_⟩
  · rw [List.pairwise_append]
    refine ⟨h.2.2, hf.2, ?_⟩
    intro u hu v hv
    obtain ⟨p, hp, rfl⟩ := List.mem_map.1 hu
    obtain ⟨q, hq, rfl⟩ := List.mem_map.1 hv
    exact hx p hp q hq
  · rw [if_neg (by omega)]
    have ls1 : (codesS ls).length = ls.length := by simp [codesS]
    by_cases hi : i < ls.length
    · have e1 : (codesS ls ++ codesR lf)[i] = (ls[i]).2.vc := by rw [List.getElem_append_left (by omega)]; simp [codesS]
      have e2 : (codLs ls lf)[i] = (ls[i]).1.run.code := (List.getElem_append_left (by simpa using hi)).trans (by simp)
      rw [e1, e2]
      obtain ⟨⟨-, -, -, -, d⟩, -⟩ := h.1 _ (List.getElem_mem hi)
      exact d
    · have hj : i - ls.length < lf.length := by simp [codLs] at b; omega
      have e1 : (codesS ls ++ codesR lf)[i] = (lf[i - ls.length]).2 := by rw [List.getElem_append_right (by omega)]; simp [codesS, codesR]
      have e2 : (codLs ls lf)[i] = (lf[i - ls.length]).1.code := (List.getElem_append_right (by simp; omega)).trans (by simp)
      rw [e1, e2]
      exact hf.1 _ (List.getElem_mem hj)
/-- Rows of systems (8 cells) or routines (4 cells) of which the first k are 'mine'. -/
def mineB : ByteArray := ⟨#[109, 105, 110, 101]⟩
def MnS (w : World) (N : Nat) (v : Value) (n k : Nat) : Prop := ∃ xs, w.ownsRow N 47 8 v n xs ∧ ∀ i, i < k → xs[i * 8 + 4]? = some (.string mineB) ∧ xs[i * 8 + 7]? = some (.slice none 0 0)
def MnR (w : World) (N : Nat) (v : Value) (n k : Nat) : Prop := ∃ xs, w.ownsRow N 45 4 v n xs ∧ ∀ i, i < k → xs[i * 4]? = some (.string mineB) ∧ xs[i * 4 + 3]? = some (.slice none 0 0)
theorem MnS.mv {w w' : World} {N n k : Nat} {v : Value} {S : Nat → Prop} (h : MnS w N v n k) (hm : Mv w w' S) (hs : ∀ j, v.ownBlock = some j → ¬ S j) : MnS w' N v n k := by
  obtain ⟨xs, h1, h2⟩ := h
  exact ⟨xs, hm.own h1 hs, h2⟩
theorem MnR.mv {w w' : World} {N n k : Nat} {v : Value} {S : Nat → Prop} (h : MnR w N v n k) (hm : Mv w w' S) (hs : ∀ j, v.ownBlock = some j → ¬ S j) : MnR w' N v n k := by
  obtain ⟨xs, h1, h2⟩ := h
  exact ⟨xs, hm.own h1 hs, h2⟩
def zSysM : List Value := [.slice none 0 0, .slice none 0 0, .slice none 0 0, .slice none 0 0, .string mineB, .int .i64 0, .int .i64 0, .slice none 0 0]
def zRtM : List Value := [.string mineB, .int .i64 0, .int .i64 0, .slice none 0 0]
theorem MnS.cells {w : World} {N n k : Nat} {v : Value} (h : MnS w N v n k) (i : Nat) (hi : i < k) (hn : i < n) : ∃ g c, v = .slice (some ⟨g, 0, none⟩) n c ∧ w.cell? ⟨g, i * 8 + 4, none⟩ = some (.string mineB) ∧ w.cell? ⟨g, i * 8 + 7, none⟩ = some (.slice none 0 0) := by
  obtain ⟨xs, h1, h2⟩ := h
  obtain ⟨g, c, rfl, hc⟩ := own_some h1 (by omega)
  obtain ⟨a, b⟩ := h2 i hi
  exact ⟨g, c, rfl, (hc _ (by omega)).trans a, (hc _ (by omega)).trans b⟩
theorem MnR.cells {w : World} {N n k : Nat} {v : Value} (h : MnR w N v n k) (i : Nat) (hi : i < k) (hn : i < n) : ∃ g c, v = .slice (some ⟨g, 0, none⟩) n c ∧ w.cell? ⟨g, i * 4, none⟩ = some (.string mineB) ∧ w.cell? ⟨g, i * 4 + 3, none⟩ = some (.slice none 0 0) := by
  obtain ⟨xs, h1, h2⟩ := h
  obtain ⟨g, c, rfl, hc⟩ := own_some h1 (by omega)
  obtain ⟨a, b⟩ := h2 i hi
  exact ⟨g, c, rfl, (hc _ (by omega)).trans a, (hc _ (by omega)).trans b⟩
theorem mine_setS {xs : List Value} {k n : Nat} (hx : xs.length = n * 8) (hk : k < n) (h : ∀ i, i < k → xs[i * 8 + 4]? = some (.string mineB) ∧ xs[i * 8 + 7]? = some (.slice none 0 0)) : ∀ i, i < k + 1 → ((((((((xs.set (k * 8) (.slice none 0 0)).set (k * 8 + 1) (.slice none 0 0)).set (k * 8 + 2) (.slice none 0 0)).set (k * 8 + 3) (.slice none 0 0)).set (k * 8 + 4) (.string mineB)).set (k * 8 + 5) (.int .i64 0)).set (k * 8 + 6) (.int .i64 0)).set (k * 8 + 7) (.slice none 0 0))[i * 8 + 4]? = some (.string mineB) ∧ ((((((((xs.set (k * 8) (.slice none 0 0)).set (k * 8 + 1) (.slice none 0 0)).set (k * 8 + 2) (.slice none 0 0)).set (k * 8 + 3) (.slice none 0 0)).set (k * 8 + 4) (.string mineB)).set (k * 8 + 5) (.int .i64 0)).set (k * 8 + 6) (.int .i64 0)).set (k * 8 + 7) (.slice none 0 0))[i * 8 + 7]? = some (.slice none 0 0) := by
  intro i hi
  by_cases e : i = k
  · subst e
    constructor
    · rw [List.getElem?_set_ne (by omega), List.getElem?_set_ne (by omega), List.getElem?_set_ne (by omega), List.getElem?_set_self (by simp; omega)]
    · rw [List.getElem?_set_self (by simp; omega)]
  · obtain ⟨a, b⟩ := h i (by omega)
    constructor
    · rw [List.getElem?_set_ne (by omega), List.getElem?_set_ne (by omega), List.getElem?_set_ne (by omega), List.getElem?_set_ne (by omega), List.getElem?_set_ne (by omega), List.getElem?_set_ne (by omega), List.getElem?_set_ne (by omega), List.getElem?_set_ne (by omega)]
      exact a
    · rw [List.getElem?_set_ne (by omega), List.getElem?_set_ne (by omega), List.getElem?_set_ne (by omega), List.getElem?_set_ne (by omega), List.getElem?_set_ne (by omega), List.getElem?_set_ne (by omega), List.getElem?_set_ne (by omega), List.getElem?_set_ne (by omega)]
      exact b
theorem mine_setR {xs : List Value} {k n : Nat} (hx : xs.length = n * 4) (hk : k < n) (h : ∀ i, i < k → xs[i * 4]? = some (.string mineB) ∧ xs[i * 4 + 3]? = some (.slice none 0 0)) : ∀ i, i < k + 1 → ((((xs.set (k * 4) (.string mineB)).set (k * 4 + 1) (.int .i64 0)).set (k * 4 + 2) (.int .i64 0)).set (k * 4 + 3) (.slice none 0 0))[i * 4]? = some (.string mineB) ∧ ((((xs.set (k * 4) (.string mineB)).set (k * 4 + 1) (.int .i64 0)).set (k * 4 + 2) (.int .i64 0)).set (k * 4 + 3) (.slice none 0 0))[i * 4 + 3]? = some (.slice none 0 0) := by
  intro i hi
  by_cases e : i = k
  · subst e
    constructor
    · rw [List.getElem?_set_ne (by omega), List.getElem?_set_ne (by omega), List.getElem?_set_ne (by omega), List.getElem?_set_self (by omega)]
    · rw [List.getElem?_set_self (by simp; omega)]
  · obtain ⟨a, b⟩ := h i (by omega)
    constructor
    · rw [List.getElem?_set_ne (by omega), List.getElem?_set_ne (by omega), List.getElem?_set_ne (by omega), List.getElem?_set_ne (by omega)]
      exact a
    · rw [List.getElem?_set_ne (by omega), List.getElem?_set_ne (by omega), List.getElem?_set_ne (by omega), List.getElem?_set_ne (by omega)]
      exact b
/-- One more of 'mine' behind. -/
theorem mine_pushS {w w' : World} {N n : Nat} {v v' : Value} {xs : List Value} (h1 : w.ownsRow N 47 8 v n xs) (h2 : ∀ i, i < n → xs[i * 8 + 4]? = some (.string mineB) ∧ xs[i * 8 + 7]? = some (.slice none 0 0)) (ho : w'.ownsRow N 47 8 v' (n + 1) (xs ++ zSysM)) : MnS w' N v' (n + 1) (n + 1) := by
  have hl := h1.1
  refine ⟨_, ho, fun i hi => ?_⟩
  by_cases e : i = n
  · subst e
    rw [List.getElem?_append_right (by omega), List.getElem?_append_right (by omega), hl, show i * 8 + 4 - i * 8 = 4 by omega, show i * 8 + 7 - i * 8 = 7 by omega]
    exact ⟨rfl, rfl⟩
  · obtain ⟨a, b⟩ := h2 i (by omega)
    rw [List.getElem?_append_left (by omega), List.getElem?_append_left (by omega)]
    exact ⟨a, b⟩
theorem mine_pushR {w w' : World} {N n : Nat} {v v' : Value} {xs : List Value} (h1 : w.ownsRow N 45 4 v n xs) (h2 : ∀ i, i < n → xs[i * 4]? = some (.string mineB) ∧ xs[i * 4 + 3]? = some (.slice none 0 0)) (ho : w'.ownsRow N 45 4 v' (n + 1) (xs ++ zRtM)) : MnR w' N v' (n + 1) (n + 1) := by
  have hl := h1.1
  refine ⟨_, ho, fun i hi => ?_⟩
  by_cases e : i = n
  · subst e
    rw [List.getElem?_append_right (by omega), List.getElem?_append_right (by omega), hl, show i * 4 - i * 4 = 0 by omega, show i * 4 + 3 - i * 4 = 3 by omega]
    exact ⟨rfl, rfl⟩
  · obtain ⟨a, b⟩ := h2 i (by omega)
    rw [List.getElem?_append_left (by omega), List.getElem?_append_left (by omega)]
    exact ⟨a, b⟩
/-- The k-th system's cells. -/
theorem sysRow {N : Nat} {w : World} {ls : List (Sy × Sv)} {a : Option Addr} {n c : Nat} (h1 : w.ownsRow N 47 8 (.slice a n c) n (sysC ls)) (h3 : SysOwn N w ls) (hn : n = ls.length) (k : Nat) (hk : k < ls.length) : ∃ g a1 n1 c1 a2 n2 c2 a3 n3 c3 a4 n4 c4 a5 n5 c5 nm pa lo, a = some ⟨g, 0, none⟩ ∧ (ls[k].2.v1 = .slice a1 n1 c1 ∧ ls[k].2.v2 = .slice a2 n2 c2 ∧ ls[k].2.v3 = .slice a3 n3 c3 ∧ ls[k].2.v4 = .slice a4 n4 c4 ∧ ls[k].2.vc = .slice a5 n5 c5) ∧ w.cell? ⟨g, k * 8, none⟩ = some (.slice a1 n1 c1) ∧ w.cell? ⟨g, k * 8 + 1, none⟩ = some (.slice a2 n2 c2) ∧ w.cell? ⟨g, k * 8 + 2, none⟩ = some (.slice a3 n3 c3) ∧ w.cell? ⟨g, k * 8 + 3, none⟩ = some (.slice a4 n4 c4) ∧ w.cell? ⟨g, k * 8 + 4, none⟩ = some (.string nm) ∧ w.cell? ⟨g, k * 8 + 5, none⟩ = some (.int .i64 pa) ∧ w.cell? ⟨g, k * 8 + 6, none⟩ = some (.int .i64 lo) ∧ w.cell? ⟨g, k * 8 + 7, none⟩ = some (.slice a5 n5 c5) := by
  obtain ⟨⟨o1, o2, o3, o4, o5⟩, -⟩ := h3.1 _ (List.getElem_mem hk)
  obtain ⟨a1, c1, e1⟩ := own_len o1
  obtain ⟨a2, c2, e2⟩ := own_len o2
  obtain ⟨a3, c3, e3⟩ := own_len o3
  obtain ⟨a4, c4, e4⟩ := own_len o4
  obtain ⟨a5, c5, e5⟩ := own_len o5
  obtain ⟨g, c', e, hc⟩ := own_some h1 (by omega)
  injection e with e6 e7 e8
  have key : ∀ j, j < 8 → w.cell? ⟨g, k * 8 + j, none⟩ = (svC ls[k])[j]? := fun j hj => (hc _ (by omega)).trans (svC_at ls k hk j hj)
  refine ⟨g, a1, _, c1, a2, _, c2, a3, _, c3, a4, _, c4, a5, _, c5, ls[k].1.run.name, ls[k].1.run.pa, ls[k].1.run.lo, e6, ⟨e1, e2, e3, e4, e5⟩, ?_, ?_, ?_, ?_, ?_, ?_, ?_, ?_⟩
  · rw [← e1]; exact key 0 (by omega)
  · rw [← e2]; exact key 1 (by omega)
  · rw [← e3]; exact key 2 (by omega)
  · rw [← e4]; exact key 3 (by omega)
  · exact key 4 (by omega)
  · exact key 5 (by omega)
  · exact key 6 (by omega)
  · rw [← e5]; exact key 7 (by omega)
theorem rtsRow {N : Nat} {w : World} {lf : List (Rt × Value)} {a : Option Addr} {n c : Nat} (h1 : w.ownsRow N 45 4 (.slice a n c) n (rtsC lf)) (h3 : RtsOwn N w lf) (hn : n = lf.length) (k : Nat) (hk : k < lf.length) : ∃ g a5 n5 c5, a = some ⟨g, 0, none⟩ ∧ lf[k].2 = .slice a5 n5 c5 ∧ w.cell? ⟨g, k * 4 + 3, none⟩ = some (.slice a5 n5 c5) := by
  have o5 := h3.1 _ (List.getElem_mem hk)
  obtain ⟨a5, c5, e5⟩ := own_len o5
  obtain ⟨g, c', e, hc⟩ := own_some h1 (by omega)
  injection e with e6 e7 e8
  refine ⟨g, a5, _, c5, e6, e5, ?_⟩
  rw [← e5]
  exact (hc _ (by omega)).trans (rvC_at lf k hk 3 (by omega))
end Go.Proofs.YtpolajoephjdhaaGreatDoor
