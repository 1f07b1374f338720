/-
  The law's told.
-/
import Derived.Test.YtlnjphfkinajdaaLaw1
namespace Go.Proofs.Ytlnjphfkinajdaa
open Go.RowKit
/-- What is nobody's stays, and stays nobody's, but for u and v. -/
def K2 (u v : Value) (own : Nat → Nat) (w : World) (own' : Nat → Nat) (w' : World) : Prop := Mv w w' (fun k => own k ≠ 0 ∨ u.ownBlock = some k ∨ v.ownBlock = some k) ∧ ∀ k, k < w.heap.size → own k = 0 → u.ownBlock ≠ some k → v.ownBlock ≠ some k → own' k = 0
section
variable {w : World} {own : Nat → Nat} {gw n M : Nat} {G : Nat → Nat × Nat} {C D : Nat → Ts} {L : List Held}
set_option maxHeartbeats 4000000 in
theorem told_any (h : Bw w gw M own G n C D L) (vl vk vm : Value) (nl : Nat) (xs : List Int) (hl : w.ownsRow 0 2 1 vl nl (zc xs)) (hk : w.ownsRow 0 2 1 vk nl (zc xs)) (hm : Fz w vm xs) (hl0 : ∀ q, vl.ownBlock = some q → own q = 0) (hk0 : ∀ q, vk.ownBlock = some q → own q = 0) (hm0 : ∀ q, vm.ownBlock = some q → own q = 0) (hlk : Ap vl vk) (hlm : Ap vl vm) (hnl : nl ≤ 1000000) (hL : L.length ≤ 1000000 - 2) :
    Calls Try.prog 35 #[.pointer (some ⟨gw, 0, none⟩), vl, vk, vm] w fun e w' => e = .returned (.bool true) ∧ ∃ own' L', Bw w' gw M own' G n C D L' ∧ L'.length = L.length + 4 ∧ K2 vl vk own w own' w' := by
  have ltl := fun q e => (hl.lt q e).2
  have ltk := fun q e => (hk.lt q e).2
  have J1 : Hid (Calls Try.prog 8 #[.pointer (some ⟨gw, 0, none⟩)] w fun e w' => e = .returned (.bool true) ∧ Below w.heap.size w w') := looks_any h (by omega)
  have JS : Hid (∀ W, Below w.heap.size w W → Calls Try.prog 41 #[vl, vm] W fun e w' => e = .returned (.bool true) ∧ Below W.heap.size W w') := fun W hW => same_is vl vm xs W (own_fz (own_later hl hW)).iz (hm.later hW).iz
  have JT : Hid (∀ W, Below w.heap.size w W → Calls Try.prog 41 #[vk, vm] W fun e w' => e = .returned (.bool true) ∧ Below W.heap.size W w') := fun W hW => same_is vk vm xs W (own_fz (own_later hk hW)).iz (hm.later hW).iz
  have J2 : Hid (∀ W, Below w.heap.size w W → Calls Try.prog 42 #[.pointer (some ⟨gw, 0, none⟩), vl] W fun e w' => e = .returned (.tuple #[]) ∧ Hid (∃ own' L', Bw w' gw M own' G n C D L' ∧ L'.length = L.length + 2 ∧ K1 vl own w own' w')) := fun W hW =>
    (takes_any (h.later hW) vl nl xs (own_later hl hW) (fun q e => by rw [ext_old (ltl q e)]; exact hl0 q e) hnl (by omega)).mono (by
      rintro e w' ⟨rfl, own', L', a1, a2, a3, a4⟩
      refine ⟨rfl, own', L', a1, a2, (Mv.of_below hW _).trans a3 (fun k hk e => ?_), fun k hk h0 hne => a4 k (Nat.lt_of_lt_of_le hk hW.size) (by rw [ext_old hk]; exact h0) hne⟩
      rw [ext_old hk] at e
      exact e)
  have J3 : Hid (∀ W, Hid (∃ own' L', Bw W gw M own' G n C D L' ∧ L'.length = L.length + 2 ∧ K1 vl own w own' W) → Calls Try.prog 41 #[vk, vm] W fun e w' => e = .returned (.bool true) ∧ Below W.heap.size W w') := fun W ⟨own', L', a1, a2, a3, a4⟩ =>
    same_is vk vm xs W (own_fz (a3.own hk (fun q e e' => by
      rcases e' with e' | e'
      · exact e' (hk0 q e)
      · exact hlk q e' e))).iz (hm.frame a3 (fun _ q e e' => by
      rcases e' with e' | e'
      · exact e' (hm0 q e)
      · exact hlm q e' e)).iz
  have J4 : Hid (∀ W, Hid (∃ own' L', Bw W gw M own' G n C D L' ∧ L'.length = L.length + 2 ∧ K1 vl own w own' W) → ∀ W1, Below W.heap.size W W1 → Calls Try.prog 42 #[.pointer (some ⟨gw, 0, none⟩), vk] W1 fun e w' => e = .returned (.tuple #[]) ∧ Hid (∃ own' L', Bw w' gw M own' G n C D L' ∧ L'.length = L.length + 4 ∧ K2 vl vk own w own' w')) := fun W ⟨own1, L1, a1, a2, a3, a4⟩ W1 hW => by
    have hk1 := a3.own hk (fun q e e' => by
      rcases e' with e' | e'
      · exact e' (hk0 q e)
      · exact hlk q e' e)
    have hsz := a3.size
    refine (takes_any (a1.later hW) vk nl xs (own_later hk1 hW) (fun q e => ?_) hnl (by omega)).mono ?_
    · rw [ext_old (hk1.lt q e).2]
      exact a4 q (ltk q e) (hk0 q e) (fun e' => hlk q e' e)
    · rintro e w' ⟨rfl, own', L', b1, b2, b3, b4⟩
      refine ⟨rfl, own', L', b1, by omega, (((a3.mono (fun k _ e => ?_)).later hW).trans b3 (fun k hk e => ?_)), fun k hk h0 n1 n2 => b4 k (Nat.lt_of_lt_of_le hk (Nat.le_trans hsz hW.size)) (by rw [ext_old (Nat.lt_of_lt_of_le hk hsz)]; exact a4 k hk h0 n1) n2⟩
      · rcases e with e | e
        · exact .inl e
        · exact .inr (.inl e)
      · rcases e with e | e
        · rw [ext_old (Nat.lt_of_lt_of_le hk hsz)] at e
          by_cases h0 : own k = 0
          · by_cases h1 : vl.ownBlock = some k
            · exact .inr (.inl h1)
            · exact absurd (a4 k hk h0 h1) e
          · exact .inl h0
        · exact .inr (.inr e)
  obtain ⟨al, cl, rfl⟩ := own_len hl
  obtain ⟨ak, ck, rfl⟩ := own_len hk
  obtain ⟨am, cm, rfl, -⟩ := hm.iz
  clear h hl hk hm hl0 hk0 hm0 hlk hlm ltl ltk
  go_enter Try.func35, Try.ntmps35
  go_wp2_with fail
  refine J1.out.mono ?_
  rintro e w1 ⟨rfl, B1⟩
  have HB1 := hide B1
  clear B1
  go_wp2_with fail
  refine (JS.out w1 HB1.out).mono ?_
  rintro e w2 ⟨rfl, B2⟩
  have HB2 := hide (below_on HB1.out B2)
  clear B2
  go_wp2_with fail
  refine (JT.out w2 HB2.out).mono ?_
  rintro e w3 ⟨rfl, B3⟩
  have HB3 := hide (below_on HB2.out B3)
  clear B3
  go_wp2_with fail
  refine (J2.out w3 HB3.out).mono ?_
  rintro e w4 ⟨rfl, H4⟩
  go_wp2_with fail
  refine (J3.out w4 H4).mono ?_
  rintro e w5 ⟨rfl, B5⟩
  have HB5 := hide B5
  clear B5
  go_wp2_with fail
  refine (J4.out w4 H4 w5 HB5.out).mono ?_
  rintro e w6 ⟨rfl, H6⟩
  go_wp2_with fail
  go_ret
  exact ⟨rfl, H6.out⟩
end
end Go.Proofs.Ytlnjphfkinajdaa
