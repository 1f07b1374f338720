/-
  One call of the program's pool and one of the document's: the same answer.
-/
import Derived.Test.YtejbdhbphbgckaaLawSt
namespace Go.Proofs.Ytejbdhbphbgckaa
open Go.RowKit
section
variable {w : World} {own : Nat → Nat} {gw i B : Nat} {G : Nat → Nat × Nat} {C D : Nat → St} {L : List Held}
/-- What is nobody's stays, and stays nobody's. -/
def K6 (own : Nat → Nat) (w : World) (own' : Nat → Nat) (w' : World) : Prop := Mv w w' (fun k => own k ≠ 6) ∧ ∀ k, k < w.heap.size → own k = 6 → own' k = 6
theorem K6.refl (own : Nat → Nat) (w : World) : K6 own w own w := ⟨Mv.refl _ _, fun _ _ e => e⟩
theorem K6.trans {o1 o2 o3 : Nat → Nat} {w1 w2 w3 : World} (h : K6 o1 w1 o2 w2) (k : K6 o2 w2 o3 w3) : K6 o1 w1 o3 w3 :=
  ⟨h.1.trans k.1 (fun q hq e e' => e (h.2 q hq e')), fun q hq e => k.2 q (Nat.lt_of_lt_of_le hq h.1.size) (h.2 q hq e)⟩
theorem K6.cell {o1 o2 : Nat → Nat} {w1 w2 : World} (h : K6 o1 w1 o2 w2) {a : Addr} {x : Value} (hc : w1.cell? a = some x) (ho : o1 a.block = 6) : w2.cell? a = some x := h.1.cell hc (fun e => e ho)
theorem K6.fe {o1 o2 : Nat → Nat} {w1 w2 : World} (h : K6 o1 w1 o2 w2) (hF : Fe o1 B w1) : Fe o2 B w2 ∧ Below B w1 w2 :=
  ⟨⟨Nat.le_trans hF.1 h.1.size, fun k hk => h.2 k (Nat.lt_of_lt_of_le hk hF.1) (hF.2 k hk)⟩, h.1.below hF.1 (fun _ e => hF.le e)⟩
theorem K6.turn {w' : World} {j : Nat} (hm : Mv w w' (Lb own w j)) (hj : j ≠ 6) : K6 own w (ext own w.heap.size j) w' :=
  ⟨hm.mono (fun k _ e => by rw [e.2]; exact hj), fun k hk e => by unfold ext; rw [if_pos hk]; exact e⟩
theorem K6.later {w' : World} (hb : Below w.heap.size w w') : K6 own w (ext own w.heap.size 6) w' :=
  ⟨Mv.of_below hb _, fun k hk e => by unfold ext; rw [if_pos hk]; exact e⟩
theorem K6.new {k : Nat} (hk : w.heap.size ≤ k) : ext own w.heap.size 6 k = 6 := by unfold ext; rw [if_neg (by omega)]
/-- What Take answers, and what it leaves. -/
def tak (s : St) : (Nat × Nat) × Int × St :=
  match s.2.2 with
  | k :: fr => ((k, s.2.1.getD k 0 + 1), 0, (s.1, s.2.1.set k (s.2.1.getD k 0 + 1), fr))
  | [] => if s.2.1.length < s.1 then ((s.2.1.length, 1), 0, (s.1, s.2.1 ++ [1], [])) else ((0, 0), 40, s)
theorem tak_code (h : Bw w gw own G C D L) (hi : i < 2) :
    Calls Try.prog 13 #[.pointer (some ⟨(G i).1, 0, none⟩)] w fun e w' => e = .returned (.tuple #[ev (tak (C i)).1, .int .i64 (tak (C i)).2.1]) ∧ ∃ own', Bw w' gw own' G (upd C i (tak (C i)).2.2) D L ∧ K6 own w own' w' := by
  rcases hc : C i with ⟨n, gs, fr⟩
  have hp : Pl w (Lb own w (2 * i)) (G i).1 n gs fr := by have := h.1 i hi; rw [hc] at this; exact this
  match fr, hp, hc with
  | k :: fr, hp, hc =>
    refine (take_free hp).mono ?_
    rintro e w' ⟨rfl, a, b⟩
    exact ⟨rfl, _, h.turnC hi (st := (n, gs.set k (gs.getD k 0 + 1), fr)) a b, K6.turn b (by omega)⟩
  | [], hp, hc =>
    by_cases hn : gs.length < n
    · refine (take_new hp hn).mono ?_
      rintro e w' ⟨rfl, a, b⟩
      have e : tak (n, gs, []) = ((gs.length, 1), 0, (n, gs ++ [1], [])) := by simp [tak, hn]
      rw [e]
      exact ⟨rfl, _, h.turnC hi (st := (n, gs ++ [1], [])) a b, K6.turn b (by omega)⟩
    · have hl := hp.2.2.2.1
      obtain rfl : gs.length = n := by omega
      refine (take_full hp).mono ?_
      rintro e w' ⟨rfl, b⟩
      have e : tak (gs.length, gs, []) = ((0, 0), 40, (gs.length, gs, [])) := by simp [tak]
      rw [e, ← hc]
      refine ⟨rfl, _, ?_, K6.later b⟩
      show Bw w' gw _ G (upd C i (C i)) D L
      rw [upd_same]
      exact h.later b
theorem tak_doc (h : Bw w gw own G C D L) (hi : i < 2) :
    Calls Try.prog 19 #[.pointer (some ⟨(G i).2, 0, none⟩)] w fun e w' => e = .returned (.tuple #[ev (tak (D i)).1, .int .i64 (tak (D i)).2.1]) ∧ ∃ own', Bw w' gw own' G C (upd D i (tak (D i)).2.2) L ∧ K6 own w own' w' := by
  rcases hc : D i with ⟨n, gs, fr⟩
  have hp : Dl w (Lb own w (2 * i + 1)) (G i).2 n gs fr := by have := h.2.1 i hi; rw [hc] at this; exact this
  match fr, hp, hc with
  | k :: fr, hp, hc =>
    refine (dtake_free hp).mono ?_
    rintro e w' ⟨rfl, a, b⟩
    exact ⟨rfl, _, h.turnD hi (st := (n, gs.set k (gs.getD k 0 + 1), fr)) a b, K6.turn b (by omega)⟩
  | [], hp, hc =>
    by_cases hn : gs.length < n
    · refine (dtake_new hp hn).mono ?_
      rintro e w' ⟨rfl, a, b⟩
      have e : tak (n, gs, []) = ((gs.length, 1), 0, (n, gs ++ [1], [])) := by simp [tak, hn]
      rw [e]
      exact ⟨rfl, _, h.turnD hi (st := (n, gs ++ [1], [])) a b, K6.turn b (by omega)⟩
    · have hl := hp.2.2.2.1
      obtain rfl : gs.length = n := by omega
      refine (dtake_full hp).mono ?_
      rintro e w' ⟨rfl, b⟩
      have e : tak (gs.length, gs, []) = ((0, 0), 40, (gs.length, gs, [])) := by simp [tak]
      rw [e, ← hc]
      refine ⟨rfl, _, ?_, K6.later b⟩
      show Bw w' gw _ G C (upd D i (D i)) L
      rw [upd_same]
      exact h.later b
/-- What Give answers, and what it leaves. -/
def giv (s : St) (a b : Int) : Int × St :=
  if livesOf s.2.1 s.2.2 a b then (0, (s.1, if s.2.1.getD a.toNat 0 = 1000000 then s.2.1.set a.toNat 1000001 else s.2.1, if s.2.1.getD a.toNat 0 = 1000000 then s.2.2 else s.2.2 ++ [a.toNat])) else (41, s)
theorem lives_parts {gs fr : List Nat} {a b : Int} (h : livesOf gs fr a b = true) : ∃ k : Nat, a = (k : Int) ∧ b = ((gs.getD k 0 : Nat) : Int) ∧ k < gs.length ∧ gs.getD k 0 ≤ 1000000 ∧ k ∉ fr := by
  simp only [livesOf, isOn, on, Bool.and_eq_true, decide_eq_true_eq, Bool.not_eq_true', List.contains_eq_mem, decide_eq_false_iff_not] at h
  obtain ⟨⟨⟨h1, h2⟩, h3, h4⟩, h5⟩ := h
  exact ⟨a.toNat, by omega, h5.symm, h2, h3, h4⟩
theorem giv_code (h : Bw w gw own G C D L) (hi : i < 2) (a b : Int) :
    Calls Try.prog 12 #[.pointer (some ⟨(G i).1, 0, none⟩), .agg #[.int .i64 a, .int .i64 b]] w fun e w' => e = .returned (.int .i64 (giv (C i) a b).1) ∧ ∃ own', Bw w' gw own' G (upd C i (giv (C i) a b).2) D L ∧ K6 own w own' w' := by
  rcases hc : C i with ⟨n, gs, fr⟩
  have hp : Pl w (Lb own w (2 * i)) (G i).1 n gs fr := by have := h.1 i hi; rw [hc] at this; exact this
  cases hl : livesOf gs fr a b with
  | true =>
    obtain ⟨k, rfl, rfl, h1, h2, h3⟩ := lives_parts hl
    have e : giv (n, gs, fr) (k : Int) ((gs.getD k 0 : Nat) : Int) = (0, (n, if gs.getD k 0 = 1000000 then gs.set k 1000001 else gs, if gs.getD k 0 = 1000000 then fr else fr ++ [k])) := by
      unfold giv
      rw [if_pos hl]
      rfl
    rw [e]
    refine (give_live hp h1 h2 h3).mono ?_
    rintro e w' ⟨rfl, c, d⟩
    exact ⟨rfl, _, h.turnC hi (st := (n, if gs.getD k 0 = 1000000 then gs.set k 1000001 else gs, if gs.getD k 0 = 1000000 then fr else fr ++ [k])) c d, K6.turn d (by omega)⟩
  | false =>
    have e : giv (n, gs, fr) a b = (41, (n, gs, fr)) := by
      unfold giv
      rw [if_neg (by rw [hl]; decide)]
    rw [e, ← hc]
    refine (give_stale a b hp hl).mono ?_
    rintro e w' ⟨rfl, d⟩
    refine ⟨rfl, _, ?_, K6.later d⟩
    show Bw w' gw _ G (upd C i (C i)) D L
    rw [upd_same]
    exact h.later d
theorem giv_doc (h : Bw w gw own G C D L) (hi : i < 2) (a b : Int) :
    Calls Try.prog 20 #[.pointer (some ⟨(G i).2, 0, none⟩), .agg #[.int .i64 a, .int .i64 b]] w fun e w' => e = .returned (.int .i64 (giv (D i) a b).1) ∧ ∃ own', Bw w' gw own' G C (upd D i (giv (D i) a b).2) L ∧ K6 own w own' w' := by
  rcases hc : D i with ⟨n, gs, fr⟩
  have hp : Dl w (Lb own w (2 * i + 1)) (G i).2 n gs fr := by have := h.2.1 i hi; rw [hc] at this; exact this
  cases hl : livesOf gs fr a b with
  | true =>
    obtain ⟨k, rfl, rfl, h1, h2, h3⟩ := lives_parts hl
    have e : giv (n, gs, fr) (k : Int) ((gs.getD k 0 : Nat) : Int) = (0, (n, if gs.getD k 0 = 1000000 then gs.set k 1000001 else gs, if gs.getD k 0 = 1000000 then fr else fr ++ [k])) := by
      unfold giv
      rw [if_pos hl]
      rfl
    rw [e]
    refine (dgive_live hp h1 h2 h3).mono ?_
    rintro e w' ⟨rfl, c, d⟩
    exact ⟨rfl, _, h.turnD hi (st := (n, if gs.getD k 0 = 1000000 then gs.set k 1000001 else gs, if gs.getD k 0 = 1000000 then fr else fr ++ [k])) c d, K6.turn d (by omega)⟩
  | false =>
    have e : giv (n, gs, fr) a b = (41, (n, gs, fr)) := by
      unfold giv
      rw [if_neg (by rw [hl]; decide)]
    rw [e, ← hc]
    refine (dgive_stale a b hp hl).mono ?_
    rintro e w' ⟨rfl, d⟩
    refine ⟨rfl, _, ?_, K6.later d⟩
    show Bw w' gw _ G C (upd D i (D i)) L
    rw [upd_same]
    exact h.later d
end
/-- What the law goes on with. -/
def Go1 (w0 : World) (gw B n : Nat) (w : World) : Prop := ∃ G C L, Bu w gw B G C C L ∧ L.length ≤ n ∧ Below B w0 w
end Go.Proofs.Ytejbdhbphbgckaa
