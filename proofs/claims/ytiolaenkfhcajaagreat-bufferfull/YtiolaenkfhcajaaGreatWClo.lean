/-
  World: parts as they are read; slices.Clone of parts; their set.
-/
import Derived.Test.YtiolaenkfhcajaaGreatWDes
import Derived.Test.YtiolaenkfhcajaaGreatWSort
namespace Go.Proofs.YtiolaenkfhcajaaGreat
open Go.RowKit
set_option maxRecDepth 100000
theorem infoP : (Tryz.prog.info? 50).map (fun i => (i.zero, i.size, i.bytes)) = some (some (.agg #[.int .i64 0, .slice none 0 0]), 2, 32) := by kernel_rfl
theorem pz_one : ∀ l : List Pt, ∀ u ∈ pz l, u.oneCell' = true
  | [], _, h => by cases h
  | p :: t, v, h => by
    simp only [pz, List.mem_cons] at h
    rcases h with rfl | rfl | h
    · rfl
    · rfl
    · exact pz_one t v h
theorem add_at (g o j : Nat) : (⟨g, o, none⟩ : Addr).add j = ⟨g, o + j, none⟩ := by
  unfold Addr.add
  split
  · rename_i h
    subst h
    rfl
  · rfl
/-- Parts that are read, wherever they lie. -/
def Rp (w : World) (v : Value) (l : List Pt) : Prop :=
  (v = .slice none 0 0 ∧ l = []) ∨ ∃ g o c, v = .slice (some ⟨g, o, none⟩) l.length c ∧ l.length ≤ c ∧ c ≤ maxLen ∧ ∀ j u, (pz l)[j]? = some u → w.cell? ⟨g, o + j, none⟩ = some u
theorem Rp.own {w : World} {v : Value} {l : List Pt} {B : Nat} (h : w.ownsRow B 50 2 v l.length (pz l)) : Rp w v l := by
  rcases h.2 with ⟨rfl, hl⟩ | ⟨g, c, cur, rfl, -, hg, h1, h2, hcs, htake⟩
  · exact .inl ⟨rfl, List.eq_nil_of_length_eq_zero hl⟩
  · refine .inr ⟨g, 0, c, rfl, h1, h2, fun j u hj => ?_⟩
    have := h.cells rfl j u hj
    rw [add_at] at this
    exact this
theorem Rp.later {w w' : World} {v : Value} {l : List Pt} (h : Rp w v l) (hb : Below w.heap.size w w') : Rp w' v l := by
  rcases h with h | ⟨g, o, c, rfl, h1, h2, h3⟩
  · exact .inl h
  · exact .inr ⟨g, o, c, rfl, h1, h2, fun j u hj => (hb.cell (p := ⟨g, o + j, none⟩) (World.block_lt_of_cell? w _ (h3 j u hj))).trans (h3 j u hj)⟩
set_option maxHeartbeats 1000000 in
theorem clone_parts (v : Value) (l : List Pt) (w : World) (h : Rp w v l) (hn : l.length ≤ 1000000) :
    Calls Tryz.prog 30 #[v] w fun e w' => ∃ v', e = .returned v' ∧ w'.ownsRow w.heap.size 50 2 v' l.length (pz l) ∧ Below w.heap.size w w' := by
  obtain ⟨i0, hi, hz0, hz1, hz2⟩ := info_parts infoP
  have q72 : ∀ (w : World) (a : Option Addr) (n c n' c' : Nat), (binOp .eql 38 (.slice a n c) (.slice none n' c')).run Tryz.prog w = .ok (.bool a.isNone) w := fun w a n c n' c' => Lib.run_eql_slice_nil w _ _ a n c n' c' Tryz.underlying38
  rcases h with ⟨rfl, rfl⟩ | ⟨g, o, cap, rfl, h1, h2, h3⟩
  · go_enter Tryz.func30, Tryz.ntmps30
    go_wp2_with fail
    go_ret
    exact ⟨_, rfl, World.ownsRow_nil _ _ _ _, Below.refl _ _⟩
  · have H := hide h3
    clear h3
    go_enter Tryz.func30, Tryz.ntmps30
    go_wp2_with (at_builtin; refine wpList_append_own_at _ rfl _ _ 38 rfl w.heap.size 50 i0 (.agg #[.int .i64 0, .slice none 0 0]) 2 32 Tryz.underlying38 hi hz0 hz1 hz2 rfl (by decide) _ 0 [] rfl (World.ownsRow_lit w #[] 0 (Nat.le_refl _) (Nat.zero_le _) rfl) ⟨g, o, none⟩ l.length cap (pz l) rfl (by rw [pz_len]) ?c1 (pz_one l) (by unfold maxLen; omega) (by omega) (by simp) ?_)
    case c1 =>
      intro j u hj
      have hc := H.out j u hj
      rw [add_at]
      exact ((below_alloc w _).cell (p := ⟨g, o + j, none⟩) (World.block_lt_of_cell? w _ hc)).trans hc
    intro v' w' ho hg _ _
    obtain ⟨ao, c, rfl⟩ := own_len ho
    have HO := hide ho
    have HG := hide hg
    clear ho hg
    go_wp2_with fail
    go_ret
    refine ⟨_, rfl, ?_, (below_alloc w _).grown HG.out (by simp) (fun k e => ?_)⟩
    · have := HO.out
      simpa using this
    · simp [Value.ownBlock] at e
      omega
/-! ### The set of some parts -/
def setOf (l : List Pt) : Nat := l.foldl (fun s p => s ||| 2 ^ p.1.toNat) 0
theorem setOf_push (l : List Pt) (p : Pt) : setOf (l ++ [p]) = setOf l ||| 2 ^ p.1.toNat := by simp [setOf]
theorem setOf_lt : ∀ (l : List Pt), (∀ p ∈ l, 1 ≤ p.1 ∧ p.1 ≤ 12) → setOf l < 8192 := by
  have key : ∀ (l : List Pt) (s : Nat), s < 2 ^ 13 → (∀ p ∈ l, 1 ≤ p.1 ∧ p.1 ≤ 12) → l.foldl (fun s p => s ||| 2 ^ p.1.toNat) s < 2 ^ 13 := by
    intro l
    induction l with
    | nil => intro s hs _; exact hs
    | cons p t ih =>
      intro s hs hp
      refine ih _ (Nat.or_lt_two_pow hs ?_) (fun x hx => hp x (List.mem_cons_of_mem _ hx))
      have := hp p (List.mem_cons_self ..)
      exact Nat.pow_lt_pow_right (by omega) (by omega)
  intro l hl
  exact key l 0 (by decide) hl
theorem testBit_fold (k : Nat) : ∀ (l : List Pt) (s : Nat), (l.foldl (fun s p => s ||| 2 ^ p.1.toNat) s).testBit k = (s.testBit k || l.any (fun p => p.1.toNat == k))
  | [], s => by simp
  | p :: t, s => by
    rw [List.foldl_cons, testBit_fold k t, Nat.testBit_or, Nat.testBit_two_pow, List.any_cons, Bool.or_assoc]
    congr 1
theorem setOf_bit (l : List Pt) (k : Nat) : (setOf l).testBit k = l.any (fun p => p.1.toNat == k) := by
  unfold setOf
  rw [testBit_fold]
  simp
/-- The set of parts does not hang on their order. -/
theorem setOf_perm {l l' : List Pt} (h : l'.Perm l) : setOf l' = setOf l := by
  apply Nat.eq_of_testBit_eq
  intro k
  rw [setOf_bit, setOf_bit]
  exact h.any_eq
end Go.Proofs.YtiolaenkfhcajaaGreat
