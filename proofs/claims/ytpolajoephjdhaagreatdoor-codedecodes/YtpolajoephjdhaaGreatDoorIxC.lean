import Derived.Test.YtpolajoephjdhaaGreatDoorIxB
import Derived.Test.YtpolajoephjdhaaGreatDoorIxA
import Derived.Test.YtpolajoephjdhaaGreatDoorBkJ
/-
  All lists of a program that was read, as the law's own takes them together.
-/
namespace Go.Proofs.YtpolajoephjdhaaGreatDoor
open Go.RowKit
set_option maxRecDepth 100000
def intLs (ls : List (Sy × Sv)) : List (List Value) := ls.flatMap fun p => [intC p.1.wi, intC p.1.wo, intC p.1.re, intC p.1.wr]
theorem intC_len (l : List Int) : (intC l).length = l.length := by simp [intC]
theorem ints_all {N : Nat} {w : World} : ∀ (ls : List (Sy × Sv)), (∀ p ∈ ls, SyOwn N w p.1 p.2.v1 p.2.v2 p.2.v3 p.2.v4 p.2.vc) → (intsOf ls).length = (intLs ls).length ∧ ∀ i (h : i < (intsOf ls).length) (h' : i < (intLs ls).length), w.ownsRow N 3 1 (intsOf ls)[i] (intLs ls)[i].length (intLs ls)[i]
  | [], _ => ⟨rfl, fun i h => absurd h (by simp [intsOf])⟩
  | p :: t, hp => by
    obtain ⟨h1, h2⟩ := ints_all t (fun q hq => hp q (List.mem_cons_of_mem _ hq))
    obtain ⟨⟨a, b, c, d, -⟩, -⟩ := hp p (List.mem_cons_self ..)
    have e1 : intsOf (p :: t) = p.2.v1 :: p.2.v2 :: p.2.v3 :: p.2.v4 :: intsOf t := rfl
    have e2 : intLs (p :: t) = intC p.1.wi :: intC p.1.wo :: intC p.1.re :: intC p.1.wr :: intLs t := rfl
    refine ⟨by rw [e1, e2]; simp [h1], ?_⟩
    intro i h h'
    have key : ∀ i (h : i < (p.2.v1 :: p.2.v2 :: p.2.v3 :: p.2.v4 :: intsOf t).length) (h' : i < (intC p.1.wi :: intC p.1.wo :: intC p.1.re :: intC p.1.wr :: intLs t).length), w.ownsRow N 3 1 (p.2.v1 :: p.2.v2 :: p.2.v3 :: p.2.v4 :: intsOf t)[i] (intC p.1.wi :: intC p.1.wo :: intC p.1.re :: intC p.1.wr :: intLs t)[i].length (intC p.1.wi :: intC p.1.wo :: intC p.1.re :: intC p.1.wr :: intLs t)[i] := by
      intro i h h'
      match i, h, h' with
      | 0, _, _ => simp only [List.getElem_cons_zero]; rw [intC_len]; exact a
      | 1, _, _ => simp only [List.getElem_cons_zero, List.getElem_cons_succ]; rw [intC_len]; exact b
      | 2, _, _ => simp only [List.getElem_cons_zero, List.getElem_cons_succ]; rw [intC_len]; exact c
      | 3, _, _ => simp only [List.getElem_cons_zero, List.getElem_cons_succ]; rw [intC_len]; exact d
      | k + 4, hk, hk' =>
        simp only [List.getElem_cons_succ]
        exact h2 k (by simp at hk; omega) (by simp at hk'; omega)
    exact key i h h'
theorem ints_mks {N : Nat} {w : World} {ls : List (Sy × Sv)} (h : SysOwn N w ls) : Mks w N (intsOf ls) (intLs ls) 0 := by
  obtain ⟨h1, h2⟩ := ints_all ls h.1
  refine ⟨h1, h.2.1, fun i a b => ?_⟩
  rw [if_neg (by omega)]
  exact h2 i a b
theorem intsOf_len (ls : List (Sy × Sv)) : (intsOf ls).length = ls.length * 4 := by
  induction ls with
  | nil => rfl
  | cons p t ih =>
    have e1 : intsOf (p :: t) = p.2.v1 :: p.2.v2 :: p.2.v3 :: p.2.v4 :: intsOf t := rfl
    rw [e1]
    simp [ih]
    omega
theorem intsOf_snoc (ls : List (Sy × Sv)) (p : Sy × Sv) : intsOf (ls ++ [p]) = intsOf ls ++ [p.2.v1, p.2.v2, p.2.v3, p.2.v4] := by simp [intsOf]
theorem codesS_snoc (ls : List (Sy × Sv)) (p : Sy × Sv) : codesS (ls ++ [p]) = codesS ls ++ [p.2.vc] := by simp [codesS]
theorem codesR_snoc (ls : List (Rt × Value)) (p : Rt × Value) : codesR (ls ++ [p]) = codesR ls ++ [p.2] := by simp [codesR]
def codLs (ls : List (Sy × Sv)) (lf : List (Rt × Value)) : List (List Ins) := (ls.map fun p => p.1.run.code) ++ lf.map fun p => p.1.code
theorem cods_mks {N : Nat} {w : World} {ls : List (Sy × Sv)} {lf : List (Rt × Value)} (h : SysOwn N w ls) (hf : RtsOwn N w lf) (hx : ∀ p ∈ ls, ∀ q ∈ lf, Ap p.2.vc q.2) : MkJ w N (codesS ls ++ codesR lf) (codLs ls lf) 0 := by
  refine ⟨by simp [codesS, codesR, codLs], ?_, fun i a b => ?_⟩
  · rw [List.pairwise_append]
    refine ⟨h.2.2, hf.2, ?_⟩
    intro u hu v hv
    obtain ⟨p, hp, rfl⟩ := List.mem_map.1 hu
    obtain ⟨q, hq, rfl⟩ := List.mem_map.1 hv
    exact hx p hp q hq
  · rw [if_neg (by omega)]
    have ls1 : (codesS ls).length = ls.length := by simp [codesS]
    by_cases hi : i < ls.length
    · have e1 : (codesS ls ++ codesR lf)[i] = (ls[i]).2.vc := by rw [List.getElem_append_left (by omega)]; simp [codesS]
      have e2 : (codLs ls lf)[i] = (ls[i]).1.run.code := (List.getElem_append_left (by simpa using hi)).trans (by simp)
      rw [e1, e2]
      obtain ⟨⟨-, -, -, -, d⟩, -⟩ := h.1 _ (List.getElem_mem hi)
      exact d
    · have hj : i - ls.length < lf.length := by simp [codLs] at b; omega
      have e1 : (codesS ls ++ codesR lf)[i] = (lf[i - ls.length]).2 := by rw [List.getElem_append_right (by omega)]; simp [codesS, codesR]
      have e2 : (codLs ls lf)[i] = (lf[i - ls.length]).1.code := (List.getElem_append_right (by simp; omega)).trans (by simp)
      rw [e1, e2]
      exact hf.1 _ (List.getElem_mem hj)
/-- Rows of systems (8 cells) or routines (4 cells) of which the first k are 'mine'. -/
def mineB : ByteArray := ⟨#[109, 105, 110, 101]⟩
def MnS (w : World) (N : Nat) (v : Value) (n k : Nat) : Prop := ∃ xs, w.ownsRow N 47 8 v n xs ∧ ∀ i, i < k → xs[i * 8 + 4]? = some (.string mineB) ∧ xs[i * 8 + 7]? = some (.slice none 0 0)
def MnR (w : World) (N : Nat) (v : Value) (n k : Nat) : Prop := ∃ xs, w.ownsRow N 45 4 v n xs ∧ ∀ i, i < k → xs[i * 4]? = some (.string mineB) ∧ xs[i * 4 + 3]? = some (.slice none 0 0)
theorem MnS.mv {w w' : World} {N n k : Nat} {v : Value} {S : Nat → Prop} (h : MnS w N v n k) (hm : Mv w w' S) (hs : ∀ j, v.ownBlock = some j → ¬ S j) : MnS w' N v n k := by
  obtain ⟨xs, h1, h2⟩ := h
  exact ⟨xs, hm.own h1 hs, h2⟩
theorem MnR.mv {w w' : World} {N n k : Nat} {v : Value} {S : Nat → Prop} (h : MnR w N v n k) (hm : Mv w w' S) (hs : ∀ j, v.ownBlock = some j → ¬ S j) : MnR w' N v n k := by
  obtain ⟨xs, h1, h2⟩ := h
  exact ⟨xs, hm.own h1 hs, h2⟩
def zSysM : List Value := [.slice none 0 0, .slice none 0 0, .slice none 0 0, .slice none 0 0, .string mineB, .int .i64 0, .int .i64 0, .slice none 0 0]
def zRtM : List Value := [.string mineB, .int .i64 0, .int .i64 0, .slice none 0 0]
theorem MnS.cells {w : World} {N n k : Nat} {v : Value} (h : MnS w N v n k) (i : Nat) (hi : i < k) (hn : i < n) : ∃ g c, v = .slice (some ⟨g, 0, none⟩) n c ∧ w.cell? ⟨g, i * 8 + 4, none⟩ = some (.string mineB) ∧ w.cell? ⟨g, i * 8 + 7, none⟩ = some (.slice none 0 0) := by
  obtain ⟨xs, h1, h2⟩ := h
  obtain ⟨g, c, rfl, hc⟩ := own_some h1 (by omega)
  obtain ⟨a, b⟩ := h2 i hi
  exact ⟨g, c, rfl, (hc _ (by omega)).trans a, (hc _ (by omega)).trans b⟩
theorem MnR.cells {w : World} {N n k : Nat} {v : Value} (h : MnR w N v n k) (i : Nat) (hi : i < k) (hn : i < n) : ∃ g c, v = .slice (some ⟨g, 0, none⟩) n c ∧ w.cell? ⟨g, i * 4, none⟩ = some (.string mineB) ∧ w.cell? ⟨g, i * 4 + 3, none⟩ = some (.slice none 0 0) := by
  obtain ⟨xs, h1, h2⟩ := h
  obtain ⟨g, c, rfl, hc⟩ := own_some h1 (by omega)
  obtain ⟨a, b⟩ := h2 i hi
  exact ⟨g, c, rfl, (hc _ (by omega)).trans a, (hc _ (by omega)).trans b⟩
theorem mine_setS {xs : List Value} {k n : Nat} (hx : xs.length = n * 8) (hk : k < n) (h : ∀ i, i < k → xs[i * 8 + 4]? = some (.string mineB) ∧ xs[i * 8 + 7]? = some (.slice none 0 0)) : ∀ i, i < k + 1 → ((((((((xs.set (k * 8) (.slice none 0 0)).set (k * 8 + 1) (.slice none 0 0)).set (k * 8 + 2) (.slice none 0 0)).set (k * 8 + 3) (.slice none 0 0)).set (k * 8 + 4) (.string mineB)).set (k * 8 + 5) (.int .i64 0)).set (k * 8 + 6) (.int .i64 0)).set (k * 8 + 7) (.slice none 0 0))[i * 8 + 4]? = some (.string mineB) ∧ ((((((((xs.set (k * 8) (.slice none 0 0)).set (k * 8 + 1) (.slice none 0 0)).set (k * 8 + 2) (.slice none 0 0)).set (k * 8 + 3) (.slice none 0 0)).set (k * 8 + 4) (.string mineB)).set (k * 8 + 5) (.int .i64 0)).set (k * 8 + 6) (.int .i64 0)).set (k * 8 + 7) (.slice none 0 0))[i * 8 + 7]? = some (.slice none 0 0) := by
  intro i hi
  by_cases e : i = k
  · subst e
    constructor
    · rw [List.getElem?_set_ne (by omega), List.getElem?_set_ne (by omega), List.getElem?_set_ne (by omega), List.getElem?_set_self (by simp; omega)]
    · rw [List.getElem?_set_self (by simp; omega)]
  · obtain ⟨a, b⟩ := h i (by omega)
    constructor
    · rw [List.getElem?_set_ne (by omega), List.getElem?_set_ne (by omega), List.getElem?_set_ne (by omega), List.getElem?_set_ne (by omega), List.getElem?_set_ne (by omega), List.getElem?_set_ne (by omega), List.getElem?_set_ne (by omega), List.getElem?_set_ne (by omega)]
      exact a
    · rw [List.getElem?_set_ne (by omega), List.getElem?_set_ne (by omega), List.getElem?_set_ne (by omega), List.getElem?_set_ne (by omega), List.getElem?_set_ne (by omega), List.getElem?_set_ne (by omega), List.getElem?_set_ne (by omega), List.getElem?_set_ne (by omega)]
      exact b
theorem mine_setR {xs : List Value} {k n : Nat} (hx : xs.length = n * 4) (hk : k < n) (h : ∀ i, i < k → xs[i * 4]? = some (.string mineB) ∧ xs[i * 4 + 3]? = some (.slice none 0 0)) : ∀ i, i < k + 1 → ((((xs.set (k * 4) (.string mineB)).set (k * 4 + 1) (.int .i64 0)).set (k * 4 + 2) (.int .i64 0)).set (k * 4 + 3) (.slice none 0 0))[i * 4]? = some (.string mineB) ∧ ((((xs.set (k * 4) (.string mineB)).set (k * 4 + 1) (.int .i64 0)).set (k * 4 + 2) (.int .i64 0)).set (k * 4 + 3) (.slice none 0 0))[i * 4 + 3]? = some (.slice none 0 0) := by
  intro i hi
  by_cases e : i = k
  · subst e
    constructor
    · rw [List.getElem?_set_ne (by omega), List.getElem?_set_ne (by omega), List.getElem?_set_ne (by omega), List.getElem?_set_self (by omega)]
    · rw [List.getElem?_set_self (by simp; omega)]
  · obtain ⟨a, b⟩ := h i (by omega)
    constructor
    · rw [List.getElem?_set_ne (by omega), List.getElem?_set_ne (by omega), List.getElem?_set_ne (by omega), List.getElem?_set_ne (by omega)]
      exact a
    · rw [List.getElem?_set_ne (by omega), List.getElem?_set_ne (by omega), List.getElem?_set_ne (by omega), List.getElem?_set_ne (by omega)]
      exact b
/-- One more of 'mine' behind. -/
theorem mine_pushS {w w' : World} {N n : Nat} {v v' : Value} {xs : List Value} (h1 : w.ownsRow N 47 8 v n xs) (h2 : ∀ i, i < n → xs[i * 8 + 4]? = some (.string mineB) ∧ xs[i * 8 + 7]? = some (.slice none 0 0)) (ho : w'.ownsRow N 47 8 v' (n + 1) (xs ++ zSysM)) : MnS w' N v' (n + 1) (n + 1) := by
  have hl := h1.1
  refine ⟨_, ho, fun i hi => ?_⟩
  by_cases e : i = n
  · subst e
    rw [List.getElem?_append_right (by omega), List.getElem?_append_right (by omega), hl, show i * 8 + 4 - i * 8 = 4 by omega, show i * 8 + 7 - i * 8 = 7 by omega]
    exact ⟨rfl, rfl⟩
  · obtain ⟨a, b⟩ := h2 i (by omega)
    rw [List.getElem?_append_left (by omega), List.getElem?_append_left (by omega)]
    exact ⟨a, b⟩
theorem mine_pushR {w w' : World} {N n : Nat} {v v' : Value} {xs : List Value} (h1 : w.ownsRow N 45 4 v n xs) (h2 : ∀ i, i < n → xs[i * 4]? = some (.string mineB) ∧ xs[i * 4 + 3]? = some (.slice none 0 0)) (ho : w'.ownsRow N 45 4 v' (n + 1) (xs ++ zRtM)) : MnR w' N v' (n + 1) (n + 1) := by
  have hl := h1.1
  refine ⟨_, ho, fun i hi => ?_⟩
  by_cases e : i = n
  · subst e
    rw [List.getElem?_append_right (by omega), List.getElem?_append_right (by omega), hl, show i * 4 - i * 4 = 0 by omega, show i * 4 + 3 - i * 4 = 3 by omega]
    exact ⟨rfl, rfl⟩
  · obtain ⟨a, b⟩ := h2 i (by omega)
    rw [List.getElem?_append_left (by omega), List.getElem?_append_left (by omega)]
    exact ⟨a, b⟩
/-- The k-th system's cells. -/
theorem sysRow {N : Nat} {w : World} {ls : List (Sy × Sv)} {a : Option Addr} {n c : Nat} (h1 : w.ownsRow N 47 8 (.slice a n c) n (sysC ls)) (h3 : SysOwn N w ls) (hn : n = ls.length) (k : Nat) (hk : k < ls.length) : ∃ g a1 n1 c1 a2 n2 c2 a3 n3 c3 a4 n4 c4 a5 n5 c5 nm pa lo, a = some ⟨g, 0, none⟩ ∧ (ls[k].2.v1 = .slice a1 n1 c1 ∧ ls[k].2.v2 = .slice a2 n2 c2 ∧ ls[k].2.v3 = .slice a3 n3 c3 ∧ ls[k].2.v4 = .slice a4 n4 c4 ∧ ls[k].2.vc = .slice a5 n5 c5) ∧ w.cell? ⟨g, k * 8, none⟩ = some (.slice a1 n1 c1) ∧ w.cell? ⟨g, k * 8 + 1, none⟩ = some (.slice a2 n2 c2) ∧ w.cell? ⟨g, k * 8 + 2, none⟩ = some (.slice a3 n3 c3) ∧ w.cell? ⟨g, k * 8 + 3, none⟩ = some (.slice a4 n4 c4) ∧ w.cell? ⟨g, k * 8 + 4, none⟩ = some (.string nm) ∧ w.cell? ⟨g, k * 8 + 5, none⟩ = some (.int .i64 pa) ∧ w.cell? ⟨g, k * 8 + 6, none⟩ = some (.int .i64 lo) ∧ w.cell? ⟨g, k * 8 + 7, none⟩ = some (.slice a5 n5 c5) := by
  obtain ⟨⟨o1, o2, o3, o4, o5⟩, -⟩ := h3.1 _ (List.getElem_mem hk)
  obtain ⟨a1, c1, e1⟩ := own_len o1
  obtain ⟨a2, c2, e2⟩ := own_len o2
  obtain ⟨a3, c3, e3⟩ := own_len o3
  obtain ⟨a4, c4, e4⟩ := own_len o4
  obtain ⟨a5, c5, e5⟩ := own_len o5
  obtain ⟨g, c', e, hc⟩ := own_some h1 (by omega)
  injection e with e6 e7 e8
  have key : ∀ j, j < 8 → w.cell? ⟨g, k * 8 + j, none⟩ = (svC ls[k])[j]? := fun j hj => (hc _ (by omega)).trans (svC_at ls k hk j hj)
  refine ⟨g, a1, _, c1, a2, _, c2, a3, _, c3, a4, _, c4, a5, _, c5, ls[k].1.run.name, ls[k].1.run.pa, ls[k].1.run.lo, e6, ⟨e1, e2, e3, e4, e5⟩, ?_, ?_, ?_, ?_, ?_, ?_, ?_, ?_⟩
  · rw [← e1]; exact key 0 (by omega)
  · rw [← e2]; exact key 1 (by omega)
  · rw [← e3]; exact key 2 (by omega)
  · rw [← e4]; exact key 3 (by omega)
  · exact key 4 (by omega)
  · exact key 5 (by omega)
  · exact key 6 (by omega)
  · rw [← e5]; exact key 7 (by omega)
theorem rtsRow {N : Nat} {w : World} {lf : List (Rt × Value)} {a : Option Addr} {n c : Nat} (h1 : w.ownsRow N 45 4 (.slice a n c) n (rtsC lf)) (h3 : RtsOwn N w lf) (hn : n = lf.length) (k : Nat) (hk : k < lf.length) : ∃ g a5 n5 c5, a = some ⟨g, 0, none⟩ ∧ lf[k].2 = .slice a5 n5 c5 ∧ w.cell? ⟨g, k * 4 + 3, none⟩ = some (.slice a5 n5 c5) := by
  have o5 := h3.1 _ (List.getElem_mem hk)
  obtain ⟨a5, c5, e5⟩ := own_len o5
  obtain ⟨g, c', e, hc⟩ := own_some h1 (by omega)
  injection e with e6 e7 e8
  refine ⟨g, a5, _, c5, e6, e5, ?_⟩
  rw [← e5]
  exact (hc _ (by omega)).trans (rvC_at lf k hk 3 (by omega))
end Go.Proofs.YtpolajoephjdhaaGreatDoor

/-
  The law's own: all lists of a program are its owner's.
-/
namespace Go.Proofs.YtpolajoephjdhaaGreatDoor
open Go.RowKit
set_option maxRecDepth 1000000
/-- The blocks of a program that was read. -/
def PgBlk (ls : List (Sy × Sv)) (lf : List (Rt × Value)) (vs vf : Value) (j : Nat) : Prop := vs.ownBlock = some j ∨ vf.ownBlock = some j ∨ (∃ v ∈ intsOf ls, v.ownBlock = some j) ∨ ∃ v ∈ codesS ls ++ codesR lf, v.ownBlock = some j
set_option maxHeartbeats 16000000 in
theorem own_at {W : World} {N : Nat} {ls : List (Sy × Sv)} {lf : List (Rt × Value)} {vs vf : Value} (h1 : W.ownsRow N 47 8 vs ls.length (sysC ls)) (h2 : W.ownsRow N 45 4 vf lf.length (rtsC lf)) (h3 : SysOwn N W ls) (h4 : RtsOwn N W lf) (h5 : ∀ p ∈ ls, ∀ q ∈ lf, Ap p.2.vc q.2) (hN : N ≤ W.heap.size) (b1 : ls.length ≤ 16) (b2 : lf.length ≤ 16) (b3 : ∀ l ∈ intLs ls, l.length ≤ 1000) (b4 : ∀ l ∈ codLs ls lf, l.length ≤ 2000) : Calls Tryz.prog 11 #[.agg #[vs, vf]] W fun e w' => e = .returned (.bool true) ∧ Mv W w' (PgBlk ls lf vs vf) := by
  obtain ⟨sa, cs, rfl⟩ := own_len h1
  obtain ⟨af, cf, rfl⟩ := own_len h2
  obtain ⟨n, hn⟩ : ∃ n, n = ls.length := ⟨_, rfl⟩
  obtain ⟨m, hm⟩ : ∃ m, m = lf.length := ⟨_, rfl⟩
  rw [← hn] at h1 b1 ⊢
  rw [← hm] at h2 b2 ⊢
  obtain ⟨w0, hw0⟩ : ∃ X, X = W.alloc (.cells #[.slice sa n cs, .slice af m cf] 27) := ⟨_, rfl⟩
  obtain ⟨B, hB⟩ : ∃ X, X = W.heap.size := ⟨_, rfl⟩
  have B0 : Below W.heap.size W w0 := hw0 ▸ below_alloc W _
  have n0 : w0.heap[B]? = some (.cells #[.slice sa n cs, .slice af m cf] 27 (0, 0)) := by rw [hw0, hB]; exact heap_alloc_new W _
  have e0 : w0.heap.size = W.heap.size + 1 := by rw [hw0]; exact Array.size_push ..
  have y1 := own_later h1 B0
  have y2 := own_later h2 B0
  have hcs := own_cap h1
  have hcf := own_cap h2
  have Y3 : SysOwn N w0 ls := h3.mv (Mv.of_below B0 (fun _ => False)) (fun _ _ _ _ _ _ _ _ e => e)
  have Y4 : RtsOwn N w0 lf := h4.mv (Mv.of_below B0 (fun _ => False)) (fun _ _ _ _ _ e => e)
  have AT : Hid (∀ w', Below w0.heap.size w0 w' → w'.cell? ⟨B, 0, none⟩ = some (.slice sa n cs) ∧ w'.cell? ⟨B, 1, none⟩ = some (.slice af m cf)) := fun w' hb => row2 ((hb.block B (lt_of_block n0)).trans n0)
  have SR : Hid (∀ w', Below w0.heap.size w0 w' → ∀ k (hk : k < ls.length), ∃ g a1 n1 c1 a2 n2 c2 a3 n3 c3 a4 n4 c4 a5 n5 c5 nm pa lo, sa = some ⟨g, 0, none⟩ ∧ (ls[k].2.v1 = .slice a1 n1 c1 ∧ ls[k].2.v2 = .slice a2 n2 c2 ∧ ls[k].2.v3 = .slice a3 n3 c3 ∧ ls[k].2.v4 = .slice a4 n4 c4 ∧ ls[k].2.vc = .slice a5 n5 c5) ∧ w'.cell? ⟨g, k * 8, none⟩ = some (.slice a1 n1 c1) ∧ w'.cell? ⟨g, k * 8 + 1, none⟩ = some (.slice a2 n2 c2) ∧ w'.cell? ⟨g, k * 8 + 2, none⟩ = some (.slice a3 n3 c3) ∧ w'.cell? ⟨g, k * 8 + 3, none⟩ = some (.slice a4 n4 c4) ∧ w'.cell? ⟨g, k * 8 + 4, none⟩ = some (.string nm) ∧ w'.cell? ⟨g, k * 8 + 5, none⟩ = some (.int .i64 pa) ∧ w'.cell? ⟨g, k * 8 + 6, none⟩ = some (.int .i64 lo) ∧ w'.cell? ⟨g, k * 8 + 7, none⟩ = some (.slice a5 n5 c5)) := fun w' hb k hk => sysRow (own_later y1 hb) (Y3.mv (Mv.of_below hb (fun _ => False)) (fun _ _ _ _ _ _ _ _ e => e)) hn k hk
  have RR : Hid (∀ w', Below w0.heap.size w0 w' → ∀ k (hk : k < lf.length), ∃ g a5 n5 c5, af = some ⟨g, 0, none⟩ ∧ lf[k].2 = .slice a5 n5 c5 ∧ w'.cell? ⟨g, k * 4 + 3, none⟩ = some (.slice a5 n5 c5)) := fun w' hb k hk => rtsRow (own_later y2 hb) (Y4.mv (Mv.of_below hb (fun _ => False)) (fun _ _ _ _ _ e => e)) hm k hk
  have IM : Hid (Mks w0 N (intsOf ls) (intLs ls) 0) := ints_mks Y3
  have CM : Hid (MkJ w0 N (codesS ls ++ codesR lf) (codLs ls lf) 0) := cods_mks Y3 Y4 h5
  have HN := hide hn
  have HM := hide hm
  have X0 := hide B0
  have E0 := hide e0
  have O1 := hide y1
  have O2 := hide y2
  have NW := hide hN
  have B3 := hide b3
  have B4 := hide b4
  have M1 : Hid (MnS w0 N (.slice sa n cs) n 0) := ⟨_, y1, fun i hi => absurd hi (by omega)⟩
  have M2 : Hid (MnR w0 N (.slice af m cf) m 0) := ⟨_, y2, fun i hi => absurd hi (by omega)⟩
  obtain ⟨ii, ki, kz0, kz1, kz2⟩ := info_parts infoLN
  obtain ⟨ic, hi, hz0, hz1, hz2⟩ := info_parts infoLI
  clear h1 h2 h3 h4 h5 hN b3 b4 n0 e0 y1 y2 Y3 Y4 hn hm B0
  go_enter Tryz.func11, Tryz.ntmps11
  go_upto_region 1 with fail
  rw [← hB, ← hw0]
  clear hw0 hB
  go_wp2_with fail
  go_loopw [5, 3, 4] (fun v5 v3 v4 wr => ∃ k : Nat, v5 = .int .i64 (k : Int) ∧ k ≤ n ∧ Hid (wr.ownsRow w0.heap.size 42 1 v3 (k * 4) (intsOf (ls.take k))) ∧ Hid (wr.ownsRow w0.heap.size 43 1 v4 k (codesS (ls.take k))) ∧ Hid (Below w0.heap.size w0 wr)) (fun v5 _ _ _ => n - (intOf v5).toNat)
  case atStart => exact ⟨0, rfl, by omega, World.ownsRow_nil _ _ _ _, World.ownsRow_nil _ _ _ _, Below.refl _ _⟩
  case round =>
    obtain ⟨k, rfl, hk, o3, o4, hb⟩ := hrel
    obtain ⟨u3, e3, rfl⟩ := own_len o3.out
    obtain ⟨u4, e4, rfl⟩ := own_len o4.out
    obtain ⟨x0, x1⟩ := AT.out wr hb.out
    by_cases hk2 : k < n
    · have hkl : k < ls.length := by rw [← HN.out]; exact hk2
      obtain ⟨g, a1, n1, c1, a2, n2, c2, a3, n3, c3, a4, n4, c4, a5, n5, c5, nm, pa, lo, rfl, ⟨y1, y2, y3, y4, y5⟩, d0, d1, d2, d3, d4, d5, d6, d7⟩ := SR.out wr hb.out k hkl
      have T3 : Hid (intsOf (ls.take (k + 1)) = intsOf (ls.take k) ++ [.slice a1 n1 c1, .slice a2 n2 c2, .slice a3 n3 c3, .slice a4 n4 c4]) := by
        unfold Hid
        rw [List.take_succ_eq_append_getElem hkl, intsOf_snoc, y1, y2, y3, y4]
      have T4 : Hid (codesS (ls.take (k + 1)) = codesS (ls.take k) ++ [.slice a5 n5 c5]) := by
        unfold Hid
        rw [List.take_succ_eq_append_getElem hkl, codesS_snoc, y5]
      clear y1 y2 y3 y4 y5 hkl
      have hk9 : (k : Int) < (n : Int) := by omega
      obtain ⟨wA, hwA⟩ : ∃ X, X = wr.alloc (.cells #[.slice a1 n1 c1, .slice a2 n2 c2, .slice a3 n3 c3, .slice a4 n4 c4, .string nm, .int .i64 pa, .int .i64 lo, .slice a5 n5 c5] 47) := ⟨_, rfl⟩
      obtain ⟨T, hT⟩ : ∃ X, X = wr.heap.size := ⟨_, rfl⟩
      have bA : Below wr.heap.size wr wA := hwA ▸ below_alloc wr _
      have nA : wA.heap[T]? = some (.cells #[.slice a1 n1 c1, .slice a2 n2 c2, .slice a3 n3 c3, .slice a4 n4 c4, .string nm, .int .i64 pa, .int .i64 lo, .slice a5 n5 c5] 47 (0, 0)) := by rw [hwA, hT]; exact heap_alloc_new wr _
      have P3 := hide (own_later o3.out bA)
      have P4 := hide (own_later o4.out bA)
      have PA := hide (below_on hb.out bA)
      have NA := hide nA
      clear bA nA o3 o4
      go_upto_region 7 with fail
      rw [← hT, ← hwA]
      clear hwA hT hb x0 x1 d0 d1 d2 d3 d4 d5 d6 d7
      obtain ⟨s0, s1, s2, s3, s4, s5, s6, s7⟩ := row8 NA.out
      have q3 := P3.out
      have qs := PA.out.size
      go_wp2_with (at_builtin; refine wpList_append_keep rfl _ _ 41 rfl w0.heap.size 42 ii (.slice none 0 0) 1 24 Tryz.underlying41 ki kz0 kz1 kz2 rfl (by decide) _ _ _ rfl (q3.alloc _) ⟨wA.heap.size, 0, none⟩ 4 4 [.slice a1 n1 c1, .slice a2 n2 c2, .slice a3 n3 c3, .slice a4 n4 c4] rfl rfl ?c1 ?c2 ?c3 ?c4 ?c5 ?_)
      case c1 =>
        intro j u hj
        match j, hj with
        | 0, hj => simp at hj; subst hj; simp [Addr.add]
        | 1, hj => simp at hj; subst hj; simp [Addr.add]
        | 2, hj => simp at hj; subst hj; simp [Addr.add]
        | 3, hj => simp at hj; subst hj; simp [Addr.add]
      case c2 => intro u hu; simp at hu; (first | (subst hu; rfl) | (rcases hu with rfl | rfl | rfl | rfl <;> rfl) | (rcases hu with rfl | rfl | rfl <;> rfl))
      case c3 => unfold maxLen; omega
      case c4 => omega
      case c5 => simp; omega
      intro v3' wB hown3 hg3 hk3 _
      have mB := (Mv.of_below (below_alloc wA (.cells #[.slice a1 n1 c1, .slice a2 n2 c2, .slice a3 n3 c3, .slice a4 n4 c4] 42)) (fun j => (Value.slice u3 (k * 4) e3).ownBlock = some j)).grown hg3 (fun j _ e => e)
      have R3 : Hid (wB.ownsRow w0.heap.size 42 1 v3' ((k + 1) * 4) (intsOf (ls.take (k + 1)))) := by
        unfold Hid
        rw [T3.out, Nat.succ_mul]
        exact hown3
      have R4 := hide (mB.own P4.out (fun j e1 e2 => own_types P3.out P4.out (by decide) j e2 e1))
      have RA : Hid (wB.heap[T]? = some (.cells #[.slice a1 n1 c1, .slice a2 n2 c2, .slice a3 n3 c3, .slice a4 n4 c4, .string nm, .int .i64 pa, .int .i64 lo, .slice a5 n5 c5] 47 (0, 0))) := mB.at NA.out (fun e => own_not P3.out NA.out (by decide) e)
      have RB : Hid (Below w0.heap.size w0 wB) := PA.out.trans (mB.below PA.out.size (fun j e => (P3.out.lt j e).1))
      clear q3 qs hown3 hg3 hk3 mB s0 s1 s2 s3 s4 s5 s6 s7 P3 P4 PA NA T3
      obtain ⟨s0, s1, s2, s3, s4, s5, s6, s7⟩ := row8 RA.out
      have q4 := R4.out
      have qs := RB.out.size
      go_wp2_with (at_builtin; refine wpList_append_keep rfl _ _ 40 rfl w0.heap.size 43 ic (.slice none 0 0) 1 24 Tryz.underlying40 hi hz0 hz1 hz2 rfl (by decide) _ _ _ rfl (q4.alloc _) ⟨wB.heap.size, 0, none⟩ 1 1 [.slice a5 n5 c5] rfl rfl ?d1 ?d2 ?d3 ?d4 ?d5 ?_)
      case d1 =>
        intro j u hj
        match j, hj with
        | 0, hj => simp at hj; subst hj; simp [Addr.add]
      case d2 => intro u hu; simp at hu; (first | (subst hu; rfl) | (rcases hu with rfl | rfl | rfl | rfl <;> rfl) | (rcases hu with rfl | rfl | rfl <;> rfl))
      case d3 => unfold maxLen; omega
      case d4 => omega
      case d5 => simp; omega
      intro v4' wC hown4 hg4 hk4 _
      have mC := (Mv.of_below (below_alloc wB (.cells #[.slice a5 n5 c5] 43)) (fun j => (Value.slice u4 k e4).ownBlock = some j)).grown hg4 (fun j _ e => e)
      have F4 : Hid (wC.ownsRow w0.heap.size 43 1 v4' (k + 1) (codesS (ls.take (k + 1)))) := by
        unfold Hid
        rw [T4.out]
        exact hown4
      have F3 := hide (mC.own R3.out (fun j e1 e2 => own_types R3.out R4.out (by decide) j e1 e2))
      have FB : Hid (Below w0.heap.size w0 wC) := RB.out.trans (mC.below RB.out.size (fun j e => (R4.out.lt j e).1))
      clear q4 qs hown4 hg4 hk4 mC s0 s1 s2 s3 s4 s5 s6 s7 R3 R4 RA RB T4
      go_wp2_with fail
      exact ⟨⟨k + 1, by go_num, by omega, F3.out, F4.out, FB.out⟩, by simp [intOf]; omega⟩
    · obtain rfl : n = k := by omega
      have F3 : Hid (wr.ownsRow w0.heap.size 42 1 (.slice u3 (n * 4) e3) (intsOf ls).length (intsOf ls)) := by
        have h := o3.out
        have e := HN.out
        rw [show List.take n ls = ls by rw [e]; exact List.take_length ..] at h
        unfold Hid
        rw [intsOf_len, ← e]
        exact h
      have F4 : Hid (wr.ownsRow w0.heap.size 43 1 (.slice u4 n e4) n (codesS ls)) := by
        have h := o4.out
        have e := HN.out
        rw [show List.take n ls = ls by rw [e]; exact List.take_length ..] at h
        exact h
      clear o3 o4
      go_wp2_with fail
      go_loopw [7, 4] (fun v7 v4 wr => ∃ q : Nat, v7 = .int .i64 (q : Int) ∧ q ≤ m ∧ Hid (wr.ownsRow w0.heap.size 43 1 v4 (n + q) (codesS ls ++ codesR (lf.take q))) ∧ Hid (wr.ownsRow w0.heap.size 42 1 (.slice u3 (n * 4) e3) (intsOf ls).length (intsOf ls)) ∧ Hid (Below w0.heap.size w0 wr)) (fun v7 _ _ => m - (intOf v7).toNat)
      case atStart => exact ⟨0, rfl, by omega, by unfold Hid; simpa [codesR] using F4.out, F3.out, hb.out⟩
      case round =>
        obtain ⟨q, rfl, hq, o4, o3, hb⟩ := hrel
        obtain ⟨u4', e4', rfl⟩ := own_len o4.out
        obtain ⟨x0, x1⟩ := AT.out wr hb.out
        by_cases hq2 : q < m
        · have hkl : q < lf.length := by rw [← HM.out]; exact hq2
          obtain ⟨g, a5, n5, c5, rfl, e5, d0⟩ := RR.out wr hb.out q hkl
          have T4 : Hid (codesS ls ++ codesR (lf.take (q + 1)) = codesS ls ++ codesR (lf.take q) ++ [.slice a5 n5 c5]) := by
            unfold Hid
            rw [List.take_succ_eq_append_getElem hkl, codesR_snoc, e5, List.append_assoc]
          clear e5 hkl
          have hq9 : (q : Int) < (m : Int) := by omega
          have q4 := o4.out
          have qs := hb.out.size
          clear F3 F4
          go_wp2_with (at_builtin; refine wpList_append_keep rfl _ _ 40 rfl w0.heap.size 43 ic (.slice none 0 0) 1 24 Tryz.underlying40 hi hz0 hz1 hz2 rfl (by decide) _ _ _ rfl (q4.alloc _) ⟨wr.heap.size, 0, none⟩ 1 1 [.slice a5 n5 c5] rfl rfl ?f1 ?f2 ?f3 ?f4 ?f5 ?_)
          case f1 =>
            intro j u hj
            match j, hj with
            | 0, hj => simp at hj; subst hj; simp [Addr.add]
          case f2 => intro u hu; simp at hu; (first | (subst hu; rfl) | (rcases hu with rfl | rfl | rfl | rfl <;> rfl) | (rcases hu with rfl | rfl | rfl <;> rfl))
          case f3 => unfold maxLen; omega
          case f4 => omega
          case f5 => simp; omega
          intro v4' wC hown4 hg4 hk4 _
          have mC := (Mv.of_below (below_alloc wr (.cells #[.slice a5 n5 c5] 43)) (fun j => (Value.slice u4' (n + q) e4').ownBlock = some j)).grown hg4 (fun j _ e => e)
          have F4 : Hid (wC.ownsRow w0.heap.size 43 1 v4' (n + (q + 1)) (codesS ls ++ codesR (lf.take (q + 1)))) := by
            unfold Hid
            rw [T4.out, ← Nat.add_assoc]
            first | exact hown4 | (rw [List.append_assoc]; exact hown4)
          have F3 := hide (mC.own o3.out (fun j e1 e2 => own_types o3.out o4.out (by decide) j e1 e2))
          have FB : Hid (Below w0.heap.size w0 wC) := hb.out.trans (mC.below hb.out.size (fun j e => (o4.out.lt j e).1))
          clear q4 qs hown4 hg4 hk4 mC x0 x1 d0 T4
          go_wp2_with fail
          exact ⟨⟨q + 1, by go_num, by omega, F4.out, F3.out, FB.out⟩, by simp [intOf]; omega⟩
        · obtain rfl : m = q := by omega
          have G4 : Hid (wr.ownsRow w0.heap.size 43 1 (.slice u4' (n + m) e4') (codesS ls ++ codesR lf).length (codesS ls ++ codesR lf)) := by
            have h := o4.out
            have e := HM.out
            have e' := HN.out
            rw [show List.take m lf = lf by rw [e]; exact List.take_length ..] at h
            unfold Hid
            rw [show (codesS ls ++ codesR lf).length = n + m by simp [codesS, codesR]; omega]
            exact h
          have G3 := hide o3.out
          have GB := hide hb.out
          have MS := hide (M1.out.mv (Mv.of_below GB.out (fun _ => False)) (fun _ _ e => e))
          have MR := hide (M2.out.mv (Mv.of_below GB.out (fun _ => False)) (fun _ _ e => e))
          have TSR : Hid (∀ j, (Value.slice sa n cs).ownBlock = some j → (Value.slice af m cf).ownBlock = some j → False) := fun j e1 e2 => own_types O1.out O2.out (by decide) j e1 e2
          have LS : Hid (∀ j, (Value.slice sa n cs).ownBlock = some j → j < w0.heap.size) := fun j e => (O1.out.lt j e).2
          have LR : Hid (∀ j, (Value.slice af m cf).ownBlock = some j → j < w0.heap.size) := fun j e => (O2.out.lt j e).2
          obtain ⟨w2, hw2⟩ : ∃ X, X = wr := ⟨_, rfl⟩
          subst hw2
          clear o3 o4 hb F3 F4 M1 M2 SR RR
          go_upto_region 15 with fail
          clear x0 x1 AT
          go_wp2_with fail
          go_loopw [10] (fun v10 wr => ∃ z : Nat, v10 = .int .i64 (z : Int) ∧ z ≤ n ∧ Hid (MnS wr N (.slice sa n cs) n z) ∧ Hid (Mv w2 wr (fun j => (Value.slice sa n cs).ownBlock = some j))) (fun v10 _ => n - (intOf v10).toNat)
          case atStart => exact ⟨0, rfl, by omega, MS.out, Mv.refl _ _⟩
          case round =>
            obtain ⟨k, rfl, hk, hm1, hm2⟩ := hrel
            by_cases hk2 : k < n
            · obtain ⟨xs, HX, HM9⟩ := hm1.out
              obtain ⟨g, c', e, hc⟩ := own_some HX (by omega)
              injection e with e1 e2 e3
              subst e1 e3
              have hxl := HX.1
              clear e2
              have d0 := (hc (k * 8) (by omega)).trans (List.getElem?_eq_getElem (by omega))
              have z0 := HX.frozenAt (k * 8)
              have d1 := (hc (k * 8 + 1) (by omega)).trans (List.getElem?_eq_getElem (by omega))
              have z1 := HX.frozenAt (k * 8 + 1)
              have d2 := (hc (k * 8 + 2) (by omega)).trans (List.getElem?_eq_getElem (by omega))
              have z2 := HX.frozenAt (k * 8 + 2)
              have d3 := (hc (k * 8 + 3) (by omega)).trans (List.getElem?_eq_getElem (by omega))
              have z3 := HX.frozenAt (k * 8 + 3)
              have d4 := (hc (k * 8 + 4) (by omega)).trans (List.getElem?_eq_getElem (by omega))
              have z4 := HX.frozenAt (k * 8 + 4)
              have d5 := (hc (k * 8 + 5) (by omega)).trans (List.getElem?_eq_getElem (by omega))
              have z5 := HX.frozenAt (k * 8 + 5)
              have d6 := (hc (k * 8 + 6) (by omega)).trans (List.getElem?_eq_getElem (by omega))
              have z6 := HX.frozenAt (k * 8 + 6)
              have d7 := (hc (k * 8 + 7) (by omega)).trans (List.getElem?_eq_getElem (by omega))
              have z7 := HX.frozenAt (k * 8 + 7)
              have st0 := (HX.stored (k * 8) (.slice none 0 0)).1
              have st1 := (st0.stored (k * 8 + 1) (.slice none 0 0)).1
              have st2 := (st1.stored (k * 8 + 2) (.slice none 0 0)).1
              have st3 := (st2.stored (k * 8 + 3) (.slice none 0 0)).1
              have st4 := (st3.stored (k * 8 + 4) (.string mineB)).1
              have st5 := (st4.stored (k * 8 + 5) (.int .i64 0)).1
              have st6 := (st5.stored (k * 8 + 6) (.int .i64 0)).1
              have st7 := (st6.stored (k * 8 + 7) (.slice none 0 0)).1
              have NX : Hid (MnS ((((((((wr.setCell ⟨g, k * 8, none⟩ (.slice none 0 0)).setCell ⟨g, k * 8 + 1, none⟩ (.slice none 0 0)).setCell ⟨g, k * 8 + 2, none⟩ (.slice none 0 0)).setCell ⟨g, k * 8 + 3, none⟩ (.slice none 0 0)).setCell ⟨g, k * 8 + 4, none⟩ (.string mineB)).setCell ⟨g, k * 8 + 5, none⟩ (.int .i64 0)).setCell ⟨g, k * 8 + 6, none⟩ (.int .i64 0)).setCell ⟨g, k * 8 + 7, none⟩ (.slice none 0 0)) N (.slice (some ⟨g, 0, none⟩) n cs) n (k + 1)) := ⟨_, st7, mine_setS hxl hk2 HM9⟩
              have MX := hide (hm2.out.trans (((((((((Mv.refl wr (fun j => (Value.slice (some ⟨g, 0, none⟩) n cs).ownBlock = some j)).set (g := g) rfl (k * 8) (.slice none 0 0)).set (g := g) rfl (k * 8 + 1) (.slice none 0 0)).set (g := g) rfl (k * 8 + 2) (.slice none 0 0)).set (g := g) rfl (k * 8 + 3) (.slice none 0 0)).set (g := g) rfl (k * 8 + 4) (.string mineB)).set (g := g) rfl (k * 8 + 5) (.int .i64 0)).set (g := g) rfl (k * 8 + 6) (.int .i64 0)).set (g := g) rfl (k * 8 + 7) (.slice none 0 0)) (fun _ _ e => e))
              clear hc HM9 HX st0 st1 st2 st3 st4 st5 st6 st7 hm1
              generalize xs[k * 8] = old0 at d0
              generalize xs[k * 8 + 1] = old1 at d1
              generalize xs[k * 8 + 2] = old2 at d2
              generalize xs[k * 8 + 3] = old3 at d3
              generalize xs[k * 8 + 4] = old4 at d4
              generalize xs[k * 8 + 5] = old5 at d5
              generalize xs[k * 8 + 6] = old6 at d6
              generalize xs[k * 8 + 7] = old7 at d7
              unfold mineB at NX MX
              have hk9 : (k : Int) < (n : Int) := by omega
              clear hxl
              go_wp2_with fail
              exact ⟨⟨k + 1, by go_num, by omega, NX.out, MX.out⟩, by simp [intOf]; omega⟩
            · obtain rfl : n = k := by omega
              have S1 := hide hm1.out
              have V1 := hide hm2.out
              have R1 := hide (MR.out.mv V1.out (fun j e1 e2 => TSR.out j e2 e1))
              clear hm1 hm2 MS MR
              obtain ⟨w3, hw3⟩ : ∃ X, X = wr := ⟨_, rfl⟩
              subst hw3
              go_wp2_with fail
              go_loopw [11] (fun v11 wr => ∃ z : Nat, v11 = .int .i64 (z : Int) ∧ z ≤ m ∧ Hid (MnR wr N (.slice af m cf) m z) ∧ Hid (Mv w3 wr (fun j => (Value.slice af m cf).ownBlock = some j))) (fun v11 _ => m - (intOf v11).toNat)
              case atStart => exact ⟨0, rfl, by omega, R1.out, Mv.refl _ _⟩
              case round =>
                obtain ⟨k, rfl, hk, hm1, hm2⟩ := hrel
                by_cases hk2 : k < m
                · obtain ⟨xs, HX, HM9⟩ := hm1.out
                  obtain ⟨g, c', e, hc⟩ := own_some HX (by omega)
                  injection e with e1 e2 e3
                  subst e1 e3
                  have hxl := HX.1
                  clear e2
                  have d0 := (hc (k * 4) (by omega)).trans (List.getElem?_eq_getElem (by omega))
                  have z0 := HX.frozenAt (k * 4)
                  have d1 := (hc (k * 4 + 1) (by omega)).trans (List.getElem?_eq_getElem (by omega))
                  have z1 := HX.frozenAt (k * 4 + 1)
                  have d2 := (hc (k * 4 + 2) (by omega)).trans (List.getElem?_eq_getElem (by omega))
                  have z2 := HX.frozenAt (k * 4 + 2)
                  have d3 := (hc (k * 4 + 3) (by omega)).trans (List.getElem?_eq_getElem (by omega))
                  have z3 := HX.frozenAt (k * 4 + 3)
                  have st0 := (HX.stored (k * 4) (.string mineB)).1
                  have st1 := (st0.stored (k * 4 + 1) (.int .i64 0)).1
                  have st2 := (st1.stored (k * 4 + 2) (.int .i64 0)).1
                  have st3 := (st2.stored (k * 4 + 3) (.slice none 0 0)).1
                  have NX : Hid (MnR ((((wr.setCell ⟨g, k * 4, none⟩ (.string mineB)).setCell ⟨g, k * 4 + 1, none⟩ (.int .i64 0)).setCell ⟨g, k * 4 + 2, none⟩ (.int .i64 0)).setCell ⟨g, k * 4 + 3, none⟩ (.slice none 0 0)) N (.slice (some ⟨g, 0, none⟩) m cf) m (k + 1)) := ⟨_, st3, mine_setR hxl hk2 HM9⟩
                  have MX := hide (hm2.out.trans (((((Mv.refl wr (fun j => (Value.slice (some ⟨g, 0, none⟩) m cf).ownBlock = some j)).set (g := g) rfl (k * 4) (.string mineB)).set (g := g) rfl (k * 4 + 1) (.int .i64 0)).set (g := g) rfl (k * 4 + 2) (.int .i64 0)).set (g := g) rfl (k * 4 + 3) (.slice none 0 0)) (fun _ _ e => e))
                  clear hc HM9 HX st0 st1 st2 st3 hm1
                  generalize xs[k * 4] = old0 at d0
                  generalize xs[k * 4 + 1] = old1 at d1
                  generalize xs[k * 4 + 2] = old2 at d2
                  generalize xs[k * 4 + 3] = old3 at d3
                  unfold mineB at NX MX
                  have hk9 : (k : Int) < (m : Int) := by omega
                  clear hxl
                  go_wp2_with fail
                  exact ⟨⟨k + 1, by go_num, by omega, NX.out, MX.out⟩, by simp [intOf]; omega⟩
                · obtain rfl : m = k := by omega
                  have R2 := hide hm1.out
                  have V2 := hide (V1.out.mono (S' := fun j => (Value.slice sa n cs).ownBlock = some j ∨ (Value.slice af m cf).ownBlock = some j) (fun _ _ e => .inl e) |>.trans hm2.out (fun _ _ e => .inr e))
                  have S2 := hide (S1.out.mv hm2.out (fun j e1 e2 => TSR.out j e1 e2))
                  have sz := GB.out.size
                  have K3 := hide (V2.out.own G3.out (fun j e1 e2 => by
                    have h := (G3.out.lt j e1).1
                    rcases e2 with e2 | e2
                    · have := LS.out j e2
                      omega
                    · have := LR.out j e2
                      omega))
                  have K4 := hide (V2.out.own G4.out (fun j e1 e2 => by
                    have h := (G4.out.lt j e1).1
                    rcases e2 with e2 | e2
                    · have := LS.out j e2
                      omega
                    · have := LR.out j e2
                      omega))
                  have I4 := hide ((IM.out.mv (Mv.of_below GB.out (fun _ => False)) (fun _ _ _ _ e => e)).mv V2.out (fun v hv j e1 e2 => by
                    obtain ⟨i, hi, rfl⟩ := List.mem_iff_getElem.1 hv
                    have o := IM.out.2.2 i hi (by rw [← IM.out.1]; exact hi)
                    rcases e2 with e2 | e2
                    · exact own_types O1.out o (by decide) j e2 e1
                    · exact own_types O2.out o (by decide) j e2 e1))
                  have C4 := hide ((CM.out.mv (Mv.of_below GB.out (fun _ => False)) (fun _ _ _ _ e => e)).mv V2.out (fun v hv j e1 e2 => by
                    obtain ⟨i, hi, rfl⟩ := List.mem_iff_getElem.1 hv
                    have o := CM.out.2.2 i hi (by rw [← CM.out.1]; exact hi)
                    rcases e2 with e2 | e2
                    · exact own_types O1.out o (by decide) j e2 e1
                    · exact own_types O2.out o (by decide) j e2 e1))
                  have LN : Hid ((intsOf ls).length ≤ 1000 ∧ (codesS ls ++ codesR lf).length ≤ 200) := by
                    have e := HM.out
                    have e' := HN.out
                    refine ⟨by rw [intsOf_len]; omega, ?_⟩
                    simp [codesS, codesR]
                    omega
                  have NWr : Hid (N ≤ wr.heap.size) := by
                    have := NW.out
                    have := X0.out.size
                    have := V2.out.size
                    unfold Hid
                    omega
                  clear hm1 hm2 R1 S1 V1
                  obtain ⟨w4, hw4⟩ : ∃ X, X = wr := ⟨_, rfl⟩
                  subst hw4
                  have J := hide (ints_any K3.out I4.out NWr.out LN.out.1 B3.out)
                  go_wp2_with fail
                  refine J.out.mono ?_
                  rintro e w5 ⟨rfl, m5⟩
                  have K5 := hide (m5.own K4.out (fun j e1 e2 => by
                    rcases e2 with e2 | ⟨v, hv, e2⟩
                    · exact own_types K3.out K4.out (by decide) j e2 e1
                    · obtain ⟨i, hi, rfl⟩ := List.mem_iff_getElem.1 hv
                      exact own_types (I4.out.2.2 i hi (by rw [← I4.out.1]; exact hi)) K4.out (by decide) j e2 e1))
                  have C5 := hide (C4.out.mv m5 (fun v hv j e1 e2 => by
                    obtain ⟨i, hi, rfl⟩ := List.mem_iff_getElem.1 hv
                    have o := C4.out.2.2 i hi (by rw [← C4.out.1]; exact hi)
                    rcases e2 with e2 | ⟨v, hv, e2⟩
                    · exact own_types K3.out o (by decide) j e2 e1
                    · obtain ⟨i', hi', rfl⟩ := List.mem_iff_getElem.1 hv
                      exact own_types (I4.out.2.2 i' hi' (by rw [← I4.out.1]; exact hi')) o (by decide) j e2 e1))
                  have S5 : Hid (MnS w5 N (.slice sa n cs) n n) := S2.out.mv m5 (fun j e1 e2 => by
                    rcases e2 with e2 | ⟨v, hv, e2⟩
                    · have := LS.out j e1
                      have := (G3.out.lt j e2).1
                      omega
                    · obtain ⟨i, hi, rfl⟩ := List.mem_iff_getElem.1 hv
                      exact own_types O1.out (IM.out.2.2 i hi (by rw [← IM.out.1]; exact hi)) (by decide) j e1 e2)
                  have R5 : Hid (MnR w5 N (.slice af m cf) m m) := R2.out.mv m5 (fun j e1 e2 => by
                    rcases e2 with e2 | ⟨v, hv, e2⟩
                    · have := LR.out j e1
                      have := (G3.out.lt j e2).1
                      omega
                    · obtain ⟨i, hi, rfl⟩ := List.mem_iff_getElem.1 hv
                      exact own_types O2.out (IM.out.2.2 i hi (by rw [← IM.out.1]; exact hi)) (by decide) j e1 e2)
                  have M5 := hide m5
                  have NW5 : Hid (N ≤ w5.heap.size) := Nat.le_trans NWr.out m5.size
                  clear J m5 sz
                  have J := hide (instrs_any K5.out C5.out NW5.out LN.out.2 B4.out)
                  go_wp2_with fail
                  refine J.out.mono ?_
                  rintro e w6 ⟨rfl, m6⟩
                  have S6 : Hid (MnS w6 N (.slice sa n cs) n n) := S5.out.mv m6 (fun j e1 e2 => by
                    rcases e2 with e2 | ⟨v, hv, e2⟩
                    · have := LS.out j e1
                      have := (G4.out.lt j e2).1
                      omega
                    · obtain ⟨i, hi, rfl⟩ := List.mem_iff_getElem.1 hv
                      exact own_types O1.out (CM.out.2.2 i hi (by rw [← CM.out.1]; exact hi)) (by decide) j e1 e2)
                  have R6 : Hid (MnR w6 N (.slice af m cf) m m) := R5.out.mv m6 (fun j e1 e2 => by
                    rcases e2 with e2 | ⟨v, hv, e2⟩
                    · have := LR.out j e1
                      have := (G4.out.lt j e2).1
                      omega
                    · obtain ⟨i, hi, rfl⟩ := List.mem_iff_getElem.1 hv
                      exact own_types O2.out (CM.out.2.2 i hi (by rw [← CM.out.1]; exact hi)) (by decide) j e1 e2)
                  have T6 : Hid (Mv W w6 (PgBlk ls lf (.slice sa n cs) (.slice af m cf))) := by
                    have a0 := Mv.of_below (X0.out.trans (GB.out.mono X0.out.size)) (PgBlk ls lf (.slice sa n cs) (.slice af m cf))
                    have g3 := fun j e => (G3.out.lt j e).1
                    have g4 := fun j e => (G4.out.lt j e).1
                    have xs0 := X0.out.size
                    have a1 := a0.trans V2.out (fun j _ e => by
                      rcases e with e | e
                      · exact .inl e
                      · exact .inr (.inl e))
                    have a2 := a1.trans M5.out (fun j hj e => by
                      rcases e with e | e
                      · have := g3 j e
                        omega
                      · exact .inr (.inr (.inl e)))
                    exact a2.trans m6 (fun j hj e => by
                      rcases e with e | e
                      · have := g4 j e
                        omega
                      · exact .inr (.inr (.inr e)))
                  have SZ6 : Hid (w0.heap.size ≤ w6.heap.size) := by
                    have := GB.out.size
                    have := V2.out.size
                    have := M5.out.size
                    have := m6.size
                    unfold Hid
                    omega
                  have NW6 : Hid (N ≤ w6.heap.size) := Nat.le_trans NW5.out m6.size
                  clear J m6 M5 K3 K4 K5 I4 C4 C5 S5 R5 S2 R2 V2 G3 G4 IM CM NWr NW5 ii ki kz0 kz1 kz2 ic hi hz0 hz1 hz2
                  obtain ⟨is, ki, kz0, kz1, kz2⟩ := info_parts infoS
                  obtain ⟨ir, hi, hz0, hz1, hz2⟩ := info_parts infoR
                  go_wp2_with fail
                  go_loopw [14, 8] (fun v14 v8 wr => ∃ z : Nat, v14 = .int .i64 (z : Int) ∧ z ≤ 64 ∧ Hid (MnS wr N v8 (n + z) (n + z)) ∧ Hid (Mv w6 wr (fun j => (Value.slice sa n cs).ownBlock = some j)) ∧ Hid (∀ j, v8.ownBlock = some j → w6.heap.size ≤ j ∨ (Value.slice sa n cs).ownBlock = some j)) (fun v14 _ _ => 64 - (intOf v14).toNat)
                  case atStart => exact ⟨0, rfl, by omega, S6.out, Mv.refl _ _, fun j e => .inr e⟩
                  case round =>
                    obtain ⟨k, rfl, hk, hm1, hm2, hbl⟩ := hrel
                    by_cases hk2 : k < 64
                    · obtain ⟨xs, o1, HM9⟩ := hm1.out
                      have hNs : N ≤ wr.heap.size := Nat.le_trans NW6.out hm2.out.size
                      have hs2 := hm2.out.size
                      go_wp2_with (at_builtin; refine wpList_append_keep rfl _ _ 24 rfl N 47 is (.agg #[.slice none 0 0, .slice none 0 0, .slice none 0 0, .slice none 0 0, .string ByteArray.empty, .int .i64 0, .int .i64 0, .slice none 0 0]) 8 152 Tryz.underlying24 ki kz0 kz1 kz2 rfl (by decide) _ _ _ rfl (o1.alloc _) ⟨wr.heap.size, 0, none⟩ 1 1 [.slice none 0 0, .slice none 0 0, .slice none 0 0, .slice none 0 0, .string ⟨#[109, 105, 110, 101]⟩, .int .i64 0, .int .i64 0, .slice none 0 0] rfl rfl ?pS1 ?pS2 ?pS3 ?pS4 ?pS5 ?_)
                      case pS1 =>
                        intro j u hj
                        match j, hj with
                        | 0, hj => simp at hj; subst hj; simp [Addr.add]
                        | 1, hj => simp at hj; subst hj; simp [Addr.add]
                        | 2, hj => simp at hj; subst hj; simp [Addr.add]
                        | 3, hj => simp at hj; subst hj; simp [Addr.add]
                        | 4, hj => simp at hj; subst hj; simp [Addr.add]
                        | 5, hj => simp at hj; subst hj; simp [Addr.add]
                        | 6, hj => simp at hj; subst hj; simp [Addr.add]
                        | 7, hj => simp at hj; subst hj; simp [Addr.add]
                      case pS2 => intro u hu; simp at hu; (first | (subst hu; rfl) | (rcases hu with rfl | rfl | rfl | rfl <;> rfl) | (rcases hu with rfl | rfl | rfl <;> rfl))
                      case pS3 => unfold maxLen; omega
                      case pS4 => omega
                      case pS5 => simp; omega
                      intro v' w8 hown' hgrow hblk hkeep
                      have hown2 : w8.ownsRow N 47 8 v' (n + k + 1) (xs ++ zSysM) := hown'
                      have O8 := hide (mine_pushS o1 HM9 hown2)
                      have M8 := hide ((hm2.out.alloc (.cells #[.slice none 0 0, .slice none 0 0, .slice none 0 0, .slice none 0 0, .string ⟨#[109, 105, 110, 101]⟩, .int .i64 0, .int .i64 0, .slice none 0 0] 47)).grown hgrow (fun j hj e => by
                        rcases hbl.out j e with h | h
                        · omega
                        · exact h))
                      have BL8 : Hid (∀ j, v'.ownBlock = some j → w6.heap.size ≤ j ∨ (Value.slice sa n cs).ownBlock = some j) := fun j e => by
                        rcases hblk with h | h
                        · exact hbl.out j (h ▸ e)
                        · rw [e] at h
                          injection h with h
                          exact .inl (by omega)
                      clear hown' hown2 hgrow hblk hkeep o1 HM9
                      go_wp2_with fail
                      exact ⟨⟨k + 1, by go_num, by omega, O8.out, M8.out, BL8.out⟩, by simp [intOf]; omega⟩
                    · obtain rfl : k = 64 := by omega
                      obtain ⟨xs8, o8, HM8⟩ := id hm1.out
                      obtain ⟨a8, c8, rfl⟩ := own_len o8
                      have k8 := own_cap o8
                      clear o8 HM8
                      have S7 := hide hm1.out
                      have V7 := hide hm2.out
                      have R7 := hide (R6.out.mv V7.out (fun j e1 e2 => TSR.out j e2 e1))
                      have BS7 := hide hbl.out
                      have NW7 : Hid (N ≤ wr.heap.size) := Nat.le_trans NW6.out V7.out.size
                      clear hm1 hm2 hbl S6 R6
                      rw [show ((64 : Nat) : Int) = 64 from rfl]
                      obtain ⟨w7, hw7⟩ : ∃ X, X = wr := ⟨_, rfl⟩
                      subst hw7
                      go_wp2_with fail
                      go_loopw [15, 9] (fun v15 v9 wr => ∃ z : Nat, v15 = .int .i64 (z : Int) ∧ z ≤ 64 ∧ Hid (MnR wr N v9 (m + z) (m + z)) ∧ Hid (Mv w7 wr (fun j => (Value.slice af m cf).ownBlock = some j)) ∧ Hid (∀ j, v9.ownBlock = some j → w7.heap.size ≤ j ∨ (Value.slice af m cf).ownBlock = some j)) (fun v15 _ _ => 64 - (intOf v15).toNat)
                      case atStart => exact ⟨0, rfl, by omega, R7.out, Mv.refl _ _, fun j e => .inr e⟩
                      case round =>
                        obtain ⟨k, rfl, hk, hm1, hm2, hbl⟩ := hrel
                        by_cases hk2 : k < 64
                        · obtain ⟨xs, o1, HM9⟩ := hm1.out
                          have hNs : N ≤ wr.heap.size := Nat.le_trans NW7.out hm2.out.size
                          have hs2 := hm2.out.size
                          go_wp2_with (at_builtin; refine wpList_append_keep rfl _ _ 25 rfl N 45 ir (.agg #[.string ByteArray.empty, .int .i64 0, .int .i64 0, .slice none 0 0]) 4 56 Tryz.underlying25 hi hz0 hz1 hz2 rfl (by decide) _ _ _ rfl (o1.alloc _) ⟨wr.heap.size, 0, none⟩ 1 1 [.string ⟨#[109, 105, 110, 101]⟩, .int .i64 0, .int .i64 0, .slice none 0 0] rfl rfl ?pR1 ?pR2 ?pR3 ?pR4 ?pR5 ?_)
                          case pR1 =>
                            intro j u hj
                            match j, hj with
                            | 0, hj => simp at hj; subst hj; simp [Addr.add]
                            | 1, hj => simp at hj; subst hj; simp [Addr.add]
                            | 2, hj => simp at hj; subst hj; simp [Addr.add]
                            | 3, hj => simp at hj; subst hj; simp [Addr.add]
                          case pR2 => intro u hu; simp at hu; (first | (subst hu; rfl) | (rcases hu with rfl | rfl | rfl | rfl <;> rfl) | (rcases hu with rfl | rfl | rfl <;> rfl))
                          case pR3 => unfold maxLen; omega
                          case pR4 => omega
                          case pR5 => simp; omega
                          intro v' w8 hown' hgrow hblk hkeep
                          have hown2 : w8.ownsRow N 45 4 v' (m + k + 1) (xs ++ zRtM) := hown'
                          have O8 := hide (mine_pushR o1 HM9 hown2)
                          have M8 := hide ((hm2.out.alloc (.cells #[.string ⟨#[109, 105, 110, 101]⟩, .int .i64 0, .int .i64 0, .slice none 0 0] 45)).grown hgrow (fun j hj e => by
                            rcases hbl.out j e with h | h
                            · omega
                            · exact h))
                          have BL8 : Hid (∀ j, v'.ownBlock = some j → w7.heap.size ≤ j ∨ (Value.slice af m cf).ownBlock = some j) := fun j e => by
                            rcases hblk with h | h
                            · exact hbl.out j (h ▸ e)
                            · rw [e] at h
                              injection h with h
                              exact .inl (by omega)
                          clear hown' hown2 hgrow hblk hkeep o1 HM9
                          go_wp2_with fail
                          exact ⟨⟨k + 1, by go_num, by omega, O8.out, M8.out, BL8.out⟩, by simp [intOf]; omega⟩
                        · obtain rfl : k = 64 := by omega
                          obtain ⟨xs9, o9, HM9⟩ := id hm1.out
                          obtain ⟨a9, c9, rfl⟩ := own_len o9
                          have k9 := own_cap o9
                          clear o9 HM9
                          have R8 := hide hm1.out
                          have S8 : Hid (MnS wr N (.slice a8 (n + 64) c8) (n + 64) (n + 64)) := S7.out.mv hm2.out (fun j e1 e2 => by
                            rcases BS7.out j e1 with h | h
                            · have := LR.out j e2
                              have := X0.out.size
                              have := GB.out.size
                              have := SZ6.out
                              omega
                            · exact TSR.out j h e2)
                          have F8 : Hid (Mv W wr (PgBlk ls lf (.slice sa n cs) (.slice af m cf))) := (T6.out.trans V7.out (fun j _ e => .inl e)).trans hm2.out (fun j _ e => .inr (.inl e))
                          clear hm1 hm2 hbl S7 R7 V7 BS7 T6
                          rw [show ((64 : Nat) : Int) = 64 from rfl]
                          obtain ⟨w8, hw8⟩ : ∃ X, X = wr := ⟨_, rfl⟩
                          subst hw8
                          obtain ⟨n8, hn8⟩ : ∃ X, X = n + 64 := ⟨_, rfl⟩
                          obtain ⟨n9, hn9⟩ : ∃ X, X = m + 64 := ⟨_, rfl⟩
                          rw [← hn8] at S8
                          rw [← hn9] at R8
                          rw [← hn8, ← hn9]
                          have h8 : n8 ≤ 80 := by omega
                          have h9 : n9 ≤ 80 := by omega
                          rw [← hn8] at k8
                          rw [← hn9] at k9
                          clear hn8 hn9
                          go_wp2_with fail
                          go_loopw [17, 16] (fun v17 v16 wr => ∃ z : Nat, v17 = .int .i64 (z : Int) ∧ z ≤ n8 ∧ v16 = .bool true ∧ Hid (Below w8.heap.size w8 wr)) (fun v17 _ _ => n8 - (intOf v17).toNat)
                          case atStart => exact ⟨0, rfl, by omega, rfl, Below.refl _ _⟩
                          case round =>
                            obtain ⟨k, rfl, hk, rfl, hb⟩ := hrel
                            by_cases hk2 : k < n8
                            · obtain ⟨g, c, e, d0, d1⟩ := (S8.out.mv (Mv.of_below hb.out (fun _ => False)) (fun _ _ e => e)).cells k hk2 hk2
                              injection e with e1 e2 e3
                              subst e1 e3
                              clear e2
                              unfold mineB at d0
                              have hk9 : (k : Int) < (n8 : Int) := by omega
                              go_wp2_with fail
                              exact ⟨⟨k + 1, by go_num, by omega, by simp, hb.out⟩, by simp [intOf]; omega⟩
                            · obtain rfl : n8 = k := by omega
                              have hb8 := hide hb.out
                              go_wp2_with fail
                              go_loopw [18, 16] (fun v18 v16 wr => ∃ z : Nat, v18 = .int .i64 (z : Int) ∧ z ≤ n9 ∧ v16 = .bool true ∧ Hid (Below w8.heap.size w8 wr)) (fun v18 _ _ => n9 - (intOf v18).toNat)
                              case atStart => exact ⟨0, rfl, by omega, rfl, hb8.out⟩
                              case round =>
                                obtain ⟨k, rfl, hk, rfl, hb⟩ := hrel
                                by_cases hk2 : k < n9
                                · obtain ⟨g, c, e, d0, d1⟩ := (R8.out.mv (Mv.of_below hb.out (fun _ => False)) (fun _ _ e => e)).cells k hk2 hk2
                                  injection e with e1 e2 e3
                                  subst e1 e3
                                  clear e2
                                  unfold mineB at d0
                                  have hk9 : (k : Int) < (n9 : Int) := by omega
                                  go_wp2_with fail
                                  exact ⟨⟨k + 1, by go_num, by omega, by simp, hb.out⟩, by simp [intOf]; omega⟩
                                · obtain rfl : n9 = k := by omega
                                  have FIN := hide (F8.out.later hb.out)
                                  go_wp2_with fail
                                  go_ret
                                  exact ⟨rfl, FIN.out⟩
end Go.Proofs.YtpolajoephjdhaaGreatDoor
