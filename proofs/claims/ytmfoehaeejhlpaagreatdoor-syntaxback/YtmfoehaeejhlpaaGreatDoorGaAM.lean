import Derived.Test.YtmfoehaeejhlpaaGreatDoorGaAG
import Derived.Test.YtmfoehaeejhlpaaGreatDoorGaAL
/-
  The grammar: statements, each way alone.
-/
namespace Go.Proofs.YtmfoehaeejhlpaaGreatDoor.Yn
set_option maxRecDepth 100000
variable {ws : List ByteArray} {n : Nat} {s : S}
def up (s : S) : S := { s with st := s.st + 1 }
theorem stmt_word {op : Nat} (h : wayOf (hd s).t = op) (h0 : op ≠ 0) (hst : s.st = 200) : stmt ws (n + 1) s = fail s 102 := by
  rw [stmt, h, if_neg h0]
  show (if s.st = 200 then _ else _) = _
  rw [if_pos hst]
theorem stmt_name_no (h : wayOf (hd s).t = 0) (hn : isName ws s = false) : stmt ws (n + 1) s = fail s 100 := by
  rw [stmt, h, if_pos rfl]
  unfold needName
  rw [hn]
  rfl
theorem stmt_name_full (h : wayOf (hd s).t = 0) (hn : isName ws s = true) (hst : s.st = 200) : stmt ws (n + 1) s = fail s 102 := by
  rw [stmt, h, if_pos rfl]
  unfold needName
  rw [hn]
  show (if s.st = 200 then _ else _) = _
  rw [if_pos hst]
theorem stmt_set (h : wayOf (hd s).t = 0) (hn : isName ws s = true) (hst : s.st ≠ 200) : stmt ws (n + 1) s = (name ws (up s)).bind fun t s1 => if isAt s1 cDot then (nameNode ws (nx s1)).bind fun f s2 => (take cEq s2).bind fun _ s4 => (tail ws n s4).bind fun x s5 => .ok (.mk 12 t 0 (([] ++ [f]) ++ [x]) (hd s).a) s5 else (take cEq s1).bind fun _ s4 => (tail ws n s4).bind fun x s5 => .ok (.mk 11 t 0 ([] ++ [x]) (hd s).a) s5 := by
  rw [stmt, h, if_pos rfl]
  unfold needName
  rw [hn]
  show (if s.st = 200 then _ else _) = _
  rw [if_neg hst]
  show (name ws (up s)).bind _ = _
  congr 1
  funext t s1
  cases b : isAt s1 cDot with
  | true =>
    simp only [if_true]
    cases nameNode ws (nx s1) <;> rfl
  | false =>
    simp only [Bool.false_eq_true, if_false]
    rfl
section
variable (hst : s.st ≠ 200)
include hst
theorem stmt_let (h : wayOf (hd s).t = 10) : stmt ws (n + 1) s = (name ws (nx (up s))).bind fun t s1 => (take cEq s1).bind fun _ s2 => (tail ws n s2).bind fun x s3 => .ok (.mk 10 t 0 ([] ++ [x]) (hd s).a) s3 := by
  rw [stmt, h]
  show (if s.st = 200 then _ else _) = _
  rw [if_neg hst]
  rfl
theorem stmt_if (h : wayOf (hd s).t = 13) : stmt ws (n + 1) s = (cond ws n (nx (up s))).bind fun c s1 => (block ws n s1).bind fun b s2 => if isAt s2 wElse then (if isAt (nx s2) wIf then stmt ws n (nx s2) else block ws n (nx s2)).bind fun x s3 => .ok (.mk 13 (bs []) 0 (([] ++ [c, b]) ++ [x]) (hd s).a) s3 else .ok (.mk 13 (bs []) 0 ([] ++ [c, b]) (hd s).a) s2 := by
  rw [stmt, h]
  show (if s.st = 200 then _ else _) = _
  rw [if_neg hst]
  rfl
theorem stmt_while (h : wayOf (hd s).t = 14) : stmt ws (n + 1) s = (cond ws n (nx (up s))).bind fun c s1 => (block ws n s1).bind fun b s2 => .ok (.mk 14 (bs []) 0 ([] ++ [c, b]) (hd s).a) s2 := by
  rw [stmt, h]
  show (if s.st = 200 then _ else _) = _
  rw [if_neg hst]
  rfl
theorem stmt_repeat (h : wayOf (hd s).t = 15) : stmt ws (n + 1) s = (cond ws n (nx (up s))).bind fun c s1 => (block ws n s1).bind fun b s2 => .ok (.mk 15 (bs []) 0 ([] ++ [c, b]) (hd s).a) s2 := by
  rw [stmt, h]
  show (if s.st = 200 then _ else _) = _
  rw [if_neg hst]
  rfl
theorem stmt_emit (h : wayOf (hd s).t = 16) : stmt ws (n + 1) s = (cond ws n (nx (up s))).bind fun x s1 => (take cCom s1).bind fun _ s2 => (tail ws n s2).bind fun y s3 => .ok (.mk 16 (bs []) 0 (([] ++ [x]) ++ [y]) (hd s).a) s3 := by
  rw [stmt, h]
  show (if s.st = 200 then _ else _) = _
  rw [if_neg hst]
  rfl
theorem stmt_spawn (h : wayOf (hd s).t = 17) : stmt ws (n + 1) s = (listS (part ws) n cSemi (nx (up s))).bind fun l s1 => (take cSemi s1).bind fun _ s2 => .ok (.mk 17 (bs []) 0 l (hd s).a) s2 := by
  rw [stmt, h]
  show (if s.st = 200 then _ else _) = _
  rw [if_neg hst]
  show R.bind _ _ = _
  congr 1
  unfold listS
  show (if isAt (nx s) cSemi then _ else _) = (if isAt (nx s) cSemi then _ else _)
  split
  · rfl
  · show R.bind (part ws n (nx (up s))) _ = _
    congr 1
    funext x s
    exact parts_items ws n [x] s
theorem stmt_add (h : wayOf (hd s).t = 18) : stmt ws (n + 1) s = (part ws n (nx (up s))).bind fun x s1 => (take cSemi s1).bind fun _ s2 => .ok (.mk 18 (bs []) 0 ([] ++ [x]) (hd s).a) s2 := by
  rw [stmt, h]
  show (if s.st = 200 then _ else _) = _
  rw [if_neg hst]
  rfl
theorem stmt_remove (h : wayOf (hd s).t = 19) : stmt ws (n + 1) s = (name ws (nx (up s))).bind fun t s1 => (take cSemi s1).bind fun _ s2 => .ok (.mk 19 t 0 [] (hd s).a) s2 := by
  rw [stmt, h]
  show (if s.st = 200 then _ else _) = _
  rw [if_neg hst]
  rfl
theorem stmt_die (h : wayOf (hd s).t = 20) : stmt ws (n + 1) s = (take cSemi (nx (up s))).bind fun _ s1 => .ok (.mk 20 (bs []) 0 [] (hd s).a) s1 := by
  rw [stmt, h]
  show (if s.st = 200 then _ else _) = _
  rw [if_neg hst]
  rfl
theorem stmt_stop (h : wayOf (hd s).t = 21) : stmt ws (n + 1) s = (take cSemi (nx (up s))).bind fun _ s1 => .ok (.mk 21 (bs []) 0 [] (hd s).a) s1 := by
  rw [stmt, h]
  show (if s.st = 200 then _ else _) = _
  rw [if_neg hst]
  rfl
theorem stmt_return (h : wayOf (hd s).t = 22) : stmt ws (n + 1) s = (tail ws n (nx (up s))).bind fun x s1 => .ok (.mk 22 (bs []) 0 ([] ++ [x]) (hd s).a) s1 := by
  rw [stmt, h]
  show (if s.st = 200 then _ else _) = _
  rw [if_neg hst]
  rfl
end
/-- The words of ways, in their order. -/
theorem wayOf_cases (t : ByteArray) : (wayOf t = 0 ∧ ∀ p ∈ ways, p.1 ≠ t) ∨ ∃ p ∈ ways, p.1 = t ∧ wayOf t = p.2 := by
  unfold wayOf
  cases h : ways.find? (fun p => decide (p.1 = t)) with
  | none =>
    left
    refine ⟨rfl, fun p hp e => ?_⟩
    have := List.find?_eq_none.1 h p hp
    exact this (decide_eq_true e)
  | some p =>
    right
    refine ⟨p, List.mem_of_find?_eq_some h, ?_, rfl⟩
    have := List.find?_some h
    exact of_decide_eq_true this
end Go.Proofs.YtmfoehaeejhlpaaGreatDoor.Yn

/-
  The grammar: statements leave the depth as it was.
-/
namespace Go.Proofs.YtmfoehaeejhlpaaGreatDoor
open Yn
set_option maxRecDepth 100000
theorem up_de {s : S} : (up s).de = s.de := rfl
theorem tail_de {ws : List ByteArray} {n : Nat} {s s' : S} {t : Tree} (h : Yn.tail ws n s = .ok t s') : s'.de = s.de := by
  unfold Yn.tail at h
  obtain ⟨x, s1, h1, h⟩ := bind_ok h
  obtain ⟨y, s2, h2, h⟩ := bind_ok h
  cases h
  exact (take_de h2).trans ((expr_de ws n).1 _ _ _ h1)
theorem stmt_de (ws : List ByteArray) : ∀ n : Nat, (∀ s t s', stmt ws n s = .ok t s' → s'.de = s.de) ∧ (∀ s t s', block ws n s = .ok t s' → s'.de = s.de) ∧ (∀ l s t s', stmts ws n l s = .ok t s' → s'.de = s.de)
  | 0 => ⟨fun s t s' h => (by rw [stmt] at h; cases h), fun s t s' h => (by rw [block] at h; cases h), fun l s t s' h => (by rw [stmts] at h; cases h)⟩
  | n + 1 => by
    obtain ⟨ih1, ih2, ih3⟩ := stmt_de ws n
    have ec := (expr_de ws n).1
    refine ⟨fun s t s' h => ?_, fun s t s' h => ?_, fun l s t s' h => ?_⟩
    · by_cases hst : s.st = 200
      · rcases wayOf_cases (hd s).t with ⟨hw, -⟩ | ⟨p, hp, -, hw⟩
        · cases hn : isName ws s with
          | false => rw [stmt_name_no hw hn] at h; cases h
          | true => rw [stmt_name_full hw hn hst] at h; cases h
        · rw [stmt_word hw (by
            intro e
            rw [Yn.ways] at hp; simp only [List.mem_cons, List.not_mem_nil, or_false] at hp
            rcases hp with rfl | rfl | rfl | rfl | rfl | rfl | rfl | rfl | rfl | rfl | rfl <;> cases e) hst] at h
          cases h
      · rcases wayOf_cases (hd s).t with ⟨hw, -⟩ | ⟨p, hp, -, hw⟩
        · cases hn : isName ws s with
          | false => rw [stmt_name_no hw hn] at h; cases h
          | true =>
            rw [stmt_set hw hn hst] at h
            obtain ⟨x1, s1, h1, h⟩ := bind_ok h
            split at h
            · obtain ⟨x2, s2, h2, h⟩ := bind_ok h
              obtain ⟨x3, s3, h3, h⟩ := bind_ok h
              obtain ⟨x4, s4, h4, h⟩ := bind_ok h
              cases h
              exact (tail_de h4).trans ((take_de h3).trans ((nameNode_de h2).trans (nx_de.trans ((name_de h1).trans up_de))))
            · obtain ⟨x3, s3, h3, h⟩ := bind_ok h
              obtain ⟨x4, s4, h4, h⟩ := bind_ok h
              cases h
              exact (tail_de h4).trans ((take_de h3).trans ((name_de h1).trans up_de))
        · have e0 : (nx (up s)).de = s.de := rfl
          refine Eq.trans ?_ e0
          rw [Yn.ways] at hp; simp only [List.mem_cons, List.not_mem_nil, or_false] at hp
          rcases hp with rfl | rfl | rfl | rfl | rfl | rfl | rfl | rfl | rfl | rfl | rfl
          · rw [stmt_let hst hw] at h
            obtain ⟨x1, s1, h1, h⟩ := bind_ok h
            obtain ⟨x2, s2, h2, h⟩ := bind_ok h
            obtain ⟨x3, s3, h3, h⟩ := bind_ok h
            cases h
            exact (tail_de h3).trans ((take_de h2).trans (name_de h1))
          · rw [stmt_if hst hw] at h
            obtain ⟨x1, s1, h1, h⟩ := bind_ok h
            obtain ⟨x2, s2, h2, h⟩ := bind_ok h
            split at h
            · obtain ⟨x3, s3, h3, h⟩ := bind_ok h
              cases h
              split at h3
              · exact (ih1 _ _ _ h3).trans ((ih2 _ _ _ h2).trans (ec _ _ _ h1))
              · exact (ih2 _ _ _ h3).trans ((ih2 _ _ _ h2).trans (ec _ _ _ h1))
            · cases h
              exact (ih2 _ _ _ h2).trans (ec _ _ _ h1)
          · rw [stmt_while hst hw] at h
            obtain ⟨x1, s1, h1, h⟩ := bind_ok h
            obtain ⟨x2, s2, h2, h⟩ := bind_ok h
            cases h
            exact (ih2 _ _ _ h2).trans (ec _ _ _ h1)
          · rw [stmt_repeat hst hw] at h
            obtain ⟨x1, s1, h1, h⟩ := bind_ok h
            obtain ⟨x2, s2, h2, h⟩ := bind_ok h
            cases h
            exact (ih2 _ _ _ h2).trans (ec _ _ _ h1)
          · rw [stmt_emit hst hw] at h
            obtain ⟨x1, s1, h1, h⟩ := bind_ok h
            obtain ⟨x2, s2, h2, h⟩ := bind_ok h
            obtain ⟨x3, s3, h3, h⟩ := bind_ok h
            cases h
            exact (tail_de h3).trans ((take_de h2).trans (ec _ _ _ h1))
          · rw [stmt_spawn hst hw] at h
            obtain ⟨x1, s1, h1, h⟩ := bind_ok h
            obtain ⟨x2, s2, h2, h⟩ := bind_ok h
            cases h
            exact (take_de h2).trans (list_de part_de h1)
          · rw [stmt_add hst hw] at h
            obtain ⟨x1, s1, h1, h⟩ := bind_ok h
            obtain ⟨x2, s2, h2, h⟩ := bind_ok h
            cases h
            exact (take_de h2).trans (part_de _ _ _ _ h1)
          · rw [stmt_remove hst hw] at h
            obtain ⟨x1, s1, h1, h⟩ := bind_ok h
            obtain ⟨x2, s2, h2, h⟩ := bind_ok h
            cases h
            exact (take_de h2).trans (name_de h1)
          · rw [stmt_die hst hw] at h
            obtain ⟨x1, s1, h1, h⟩ := bind_ok h
            cases h
            exact take_de h1
          · rw [stmt_stop hst hw] at h
            obtain ⟨x1, s1, h1, h⟩ := bind_ok h
            cases h
            exact take_de h1
          · rw [stmt_return hst hw] at h
            obtain ⟨x1, s1, h1, h⟩ := bind_ok h
            cases h
            exact tail_de h1
    · rw [block] at h
      obtain ⟨x1, s1, h1, h⟩ := bind_ok h
      obtain ⟨x2, s2, h2, h⟩ := bind_ok h
      cases h
      have e1 := open_de h1
      have e2 := ih3 _ _ _ _ h2
      rw [leave_de]
      omega
    · rw [stmts] at h
      split at h
      · cases h
        rfl
      · obtain ⟨x1, s1, h1, h⟩ := bind_ok h
        exact (ih3 _ _ _ _ h).trans (ih1 _ _ _ h1)
end Go.Proofs.YtmfoehaeejhlpaaGreatDoor
