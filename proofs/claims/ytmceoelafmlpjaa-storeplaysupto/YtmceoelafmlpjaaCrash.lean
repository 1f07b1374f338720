/-
  A store: Crash, Cut; the law's pick.
-/
import Derived.Test.YtmceoelafmlpjaaFail
namespace Go.Proofs.Ytmceoelafmlpjaa
open Go.RowKit
set_option maxHeartbeats 1000000 in
theorem crash_off (g B : Nat) (v vj : Value) (l : List UInt8) (n : Nat) (f k : Int) (w : World) (h : St w B g v l n false f) :
    Calls Try.prog 14 #[.pointer (some ⟨g, 0, none⟩), .int .i64 k, vj] w fun e w' => e = .returned (.int .i64 30) ∧ w' = w := by
  obtain ⟨c0, c1, c2, c3⟩ := h.cell
  clear h
  go_enter Try.func14, Try.ntmps14
  go_wp2_with fail
  go_ret
  exact ⟨rfl, rfl⟩
set_option maxHeartbeats 1000000 in
theorem crash_neg (g B : Nat) (v vj : Value) (l : List UInt8) (n : Nat) (f k : Int) (w : World) (h : St w B g v l n true f) (hk : k < 0) :
    Calls Try.prog 14 #[.pointer (some ⟨g, 0, none⟩), .int .i64 k, vj] w fun e w' => e = .returned (.int .i64 1) ∧ w' = w := by
  obtain ⟨c0, c1, c2, c3⟩ := h.cell
  clear h
  go_enter Try.func14, Try.ntmps14
  go_wp2_with fail
  go_ret
  exact ⟨rfl, rfl⟩
set_option maxHeartbeats 2000000 in
set_option maxRecDepth 100000 in
theorem crash_full (g B : Nat) (v vj : Value) (l j : List UInt8) (n k : Nat) (f : Int) (w : World) (h : St w B g v l n true f) (hj : Bs w vj j) (hjs : j.length ≤ 9223372019999999999) (hm : 16777216 < n + min k (l.length - n) + j.length) :
    Calls Try.prog 14 #[.pointer (some ⟨g, 0, none⟩), .int .i64 k, vj] w fun e w' => e = .returned (.int .i64 40) ∧ Below w.heap.size w w' := by
  obtain ⟨c0, c1, c2, c3⟩ := h.cell
  have hl := h.2.2.2.2.2.1
  have hn := h.2.2.2.2.1
  obtain ⟨ao, cb, rfl, h1, h2, h3⟩ := hj
  unfold maxLen at h2
  have HL := hide (loose_any g B v l n true f w h)
  have hlt := h.lt
  clear h h3
  have t0 : ¬ (k : Int) < 0 := by omega
  by_cases hk : k ≤ l.length - n
  · rw [Nat.min_eq_left hk] at hm
    go_enter Try.func14, Try.ntmps14
    go_wp2_with fail
    refine HL.out.mono ?_
    rintro e w2 ⟨rfl, hb⟩
    have c1' := (hb.cell (p := ⟨g, 1, none⟩) hlt).trans c1
    have HB := hide hb
    have hk' : (k : Int) ≤ ((l.length - n : Nat) : Int) := by omega
    have e1 : IntKind.i64.wrap ((n : Int) + (k : Int)) = (n : Int) + (k : Int) := by rw [IntKind.wrap_i64]; omega
    have e2 : IntKind.i64.wrap ((n : Int) + (k : Int) + (j.length : Int)) = (n : Int) + (k : Int) + (j.length : Int) := by rw [IntKind.wrap_i64]; omega
    have e3 : (n : Int) + (k : Int) + (j.length : Int) > 16777216 := by omega
    clear HL hb
    go_wp2_with fail
    go_ret
    exact ⟨rfl, HB.out⟩
  · rw [Nat.min_eq_right (by omega)] at hm
    go_enter Try.func14, Try.ntmps14
    go_wp2_with fail
    refine HL.out.mono ?_
    rintro e w2 ⟨rfl, hb⟩
    have c1' := (hb.cell (p := ⟨g, 1, none⟩) hlt).trans c1
    have HB := hide hb
    obtain ⟨q, hq⟩ : ∃ q, q = l.length - n := ⟨_, rfl⟩
    rw [← hq] at hm hk ⊢
    have HQ := hide hq
    clear hq
    have hk' : ¬ (k : Int) ≤ (q : Int) := by omega
    have hk'' : (q : Int) ≤ (k : Int) := by omega
    have hql : q ≤ l.length := by have := HQ.out; omega
    have e1 : IntKind.i64.wrap ((n : Int) + (q : Int)) = (n : Int) + (q : Int) := by rw [IntKind.wrap_i64]; omega
    have e2 : IntKind.i64.wrap ((n : Int) + (q : Int) + (j.length : Int)) = (n : Int) + (q : Int) + (j.length : Int) := by rw [IntKind.wrap_i64]; omega
    have e3 : (n : Int) + (q : Int) + (j.length : Int) > 16777216 := by omega
    clear HL hb
    go_wp2_with fail
    go_ret
    exact ⟨rfl, HB.out⟩
set_option maxHeartbeats 2000000 in
set_option maxRecDepth 100000 in
theorem crash_any (g B : Nat) (v vj : Value) (l j : List UInt8) (n k : Nat) (f : Int) (w : World) (h : St w B g v l n true f) (hj : Bs w vj j) (hnj : NilOr vj) (hm : n + min k (l.length - n) + j.length ≤ 16777216) :
    Calls Try.prog 14 #[.pointer (some ⟨g, 0, none⟩), .int .i64 k, vj] w fun e w' => ∃ v', e = .returned (.int .i64 0) ∧ St w' B g v' (l.take (n + min k (l.length - n)) ++ j) (n + min k (l.length - n) + j.length) false (-1) ∧ On w w' g v v' := by
  obtain ⟨c0, c1, c2, c3⟩ := h.cell
  have hl := h.2.2.2.2.2.1
  have hn := h.2.2.2.2.1
  obtain ⟨ao, cb, rfl, h1, h2, _⟩ := id hj
  unfold maxLen at h2
  have HL := hide (loose_any g B v l n true f w h)
  have hlt := h.lt
  have H := hide h
  have HJ := hide hj
  clear h hj
  have t0 : ¬ (k : Int) < 0 := by omega
  have K : Hid (∀ (q : Nat) (w2 : World), Below w.heap.size w w2 → n + q ≤ l.length → n + q + j.length ≤ 16777216 → Calls Try.prog 33 #[.pointer (some ⟨g, 0, none⟩), .int .i64 q, .slice ao j.length cb] w2 fun e w' => ∃ v', e = .returned (.tuple #[]) ∧ St w' B g v' (l.take (n + q) ++ j) (n + q + j.length) false (-1) ∧ On w w' g v v') := fun q w2 hb h1 h2 =>
    (fail_any g B v _ l j n q true f w2 (H.out.later hb) (HJ.out.below hb (Nat.le_refl _)) hnj h1 h2).mono (by
      rintro e w' ⟨v', he, hs, ho⟩
      exact ⟨v', he, hs, ((On.refl w g v).later hb).trans ho⟩)
  by_cases hk : k ≤ l.length - n
  · rw [Nat.min_eq_left hk] at hm ⊢
    go_enter Try.func14, Try.ntmps14
    go_wp2_with fail
    refine HL.out.mono ?_
    rintro e w2 ⟨rfl, hb⟩
    have c1' := (hb.cell (p := ⟨g, 1, none⟩) hlt).trans c1
    have hk' : (k : Int) ≤ ((l.length - n : Nat) : Int) := by omega
    have e1 : IntKind.i64.wrap ((n : Int) + (k : Int)) = (n : Int) + (k : Int) := by rw [IntKind.wrap_i64]; omega
    have e2 : IntKind.i64.wrap ((n : Int) + (k : Int) + (j.length : Int)) = (n : Int) + (k : Int) + (j.length : Int) := by rw [IntKind.wrap_i64]; omega
    have e3 : ¬ (n : Int) + (k : Int) + (j.length : Int) > 16777216 := by omega
    have HK := hide (K.out k w2 hb (by omega) hm)
    clear HL hb K
    go_wp2_with fail
    refine HK.out.mono ?_
    rintro e w3 ⟨v3, rfl, hs, ho⟩
    have HS := hide hs
    have HO := hide ho
    clear hs ho
    go_wp2_with fail
    go_ret
    exact ⟨_, rfl, HS.out, HO.out⟩
  · rw [Nat.min_eq_right (by omega)] at hm ⊢
    obtain ⟨q, hq⟩ : ∃ q, q = l.length - n := ⟨_, rfl⟩
    rw [← hq] at hm hk HL ⊢
    go_enter Try.func14, Try.ntmps14
    go_wp2_with fail
    refine HL.out.mono ?_
    rintro e w2 ⟨rfl, hb⟩
    have c1' := (hb.cell (p := ⟨g, 1, none⟩) hlt).trans c1
    have hk' : ¬ (k : Int) ≤ (q : Int) := by omega
    have hk'' : (q : Int) ≤ (k : Int) := by omega
    have hql : q ≤ l.length := by omega
    have e1 : IntKind.i64.wrap ((n : Int) + (q : Int)) = (n : Int) + (q : Int) := by rw [IntKind.wrap_i64]; omega
    have e2 : IntKind.i64.wrap ((n : Int) + (q : Int) + (j.length : Int)) = (n : Int) + (q : Int) + (j.length : Int) := by rw [IntKind.wrap_i64]; omega
    have e3 : ¬ (n : Int) + (q : Int) + (j.length : Int) > 16777216 := by omega
    have HK := hide (K.out q w2 hb (by omega) hm)
    have HQ := hide hq
    clear HL hb K hq
    go_wp2_with fail
    refine HK.out.mono ?_
    rintro e w3 ⟨v3, rfl, hs, ho⟩
    have HS := hide hs
    have HO := hide ho
    clear hs ho
    go_wp2_with fail
    go_ret
    exact ⟨_, rfl, HS.out, HO.out⟩

/-- Which of n things a raw number speaks of. -/
def pk (c : Int) (n : Nat) : Nat := ((if c < 0 then -(c + 1) else c).tmod n).toNat
theorem pk_of {c : Int} {n : Nat} (hn : 0 < n) : pk c n < n ∧ (if c < 0 then -(c + 1) else c).tmod n = (pk c n : Int) := by
  have key : ∀ x : Int, 0 ≤ x → (x.tmod n).toNat < n ∧ x.tmod n = ((x.tmod n).toNat : Int) := fun x hx => by
    have e1 := Int.tmod_eq_emod_of_nonneg (a := x) (b := n) hx
    have e2 := Int.emod_nonneg x (show (n : Int) ≠ 0 by omega)
    have e3 := Int.emod_lt_of_pos x (show (0 : Int) < n by omega)
    exact ⟨by omega, by omega⟩
  unfold pk
  split
  · exact key _ (by omega)
  · exact key _ (by omega)
theorem pk_lt (c : Int) {n : Nat} (hn : 0 < n) : pk c n < n := (pk_of hn).1
set_option maxHeartbeats 1000000 in
theorem pick_any (c : Int) (n : Nat) (w : World) (h0 : -9223372036854775808 ≤ c) (h1 : c ≤ 9223372036854775807) (hn : 0 < n) (hm : n ≤ 9223372036854775807) :
    Calls Try.prog 11 #[.int .i64 c, .int .i64 n] w fun e w' => e = .returned (.int .i64 (pk c n)) ∧ w' = w := by
  have hz : ((n : Int) == 0) = false := by rw [beq_eq_false_iff_ne]; omega
  obtain ⟨_, e⟩ := pk_of (c := c) hn
  by_cases hc : c < 0
  · rw [if_pos hc] at e
    have E := hide e
    clear e
    go_enter Try.func11, Try.ntmps11
    go_wp2
    go_ret
    exact ⟨ret_int (by rw [← E.out, Int.neg_tmod]), rfl⟩
  · rw [if_neg hc] at e
    have E := hide e
    clear e
    go_enter Try.func11, Try.ntmps11
    go_wp2
    go_ret
    exact ⟨ret_int (by rw [← E.out, Int.tmod_eq_emod_of_nonneg (by omega)]), rfl⟩
end Go.Proofs.Ytmceoelafmlpjaa
