/-
  The document's GetRow (function 27): it is what GetRow tells.
-/
import Derived.Test.YtoccbeefmagklaaRefRow
import Derived.Test.YtoccbeefmagklaaRefBest
import Derived.Test.YtoccbeefmagklaaGetRow
import Derived.BigQuiet
import Derived.Deep.QuietTactic
import Derived.Deep.RegionHeld3
namespace Go.Proofs.Ytoccbeefmagklaa
open Go.RowKit

set_option maxHeartbeats 4000000 in
set_option maxRecDepth 100000 in
theorem rrow_big (g o c n f : Nat) (l : List UInt8) (w : World) (hn : 1 ≤ n) (hn' : n ≤ 100000) (hf : 3 ≤ f) (hf' : f < 256) :
    Calls Try.prog 45 #[.slice (some ⟨g, o, none⟩) l.length c, .int .i64 n, .int .u8 f] w fun e w' => e = .returned (.tuple #[.slice none 0 0, .int .i64 0]) ∧ w' = w := by
  have f2 : ((f : Int) == 2) = false := by rw [beq_eq_false_iff_ne]; omega
  have f3 : ¬ (f : Int) < 2 := by omega
  have n0 : (0 : Int) < n := by omega
  have n1 : ((0 : Int) != n) = true := by rw [bne_iff_ne]; omega
  go_enter Try.func45, Try.ntmps45
  go_wp2
  go_loopw [8, 11] (fun v8 v11 wr => v8 = .slice none 0 0 ∧ v11 = .int .u64 0 ∧ wr = w) (fun _ _ _ => 0)
  case atStart => exact ⟨rfl, rfl, rfl⟩
  case round =>
    obtain ⟨rfl, rfl, rfl⟩ := hrel
    go_wp2
    go_ret2
    exact ⟨rfl, rfl⟩

/-- What the document's row hands back, whatever the form's byte. -/
def RfVal (w w' : World) (v : Value) (t : Nat) (l : List UInt8) (f n : Nat) : Prop :=
  (v = .slice none 0 0 ∧ t = 0 ∧ (3 ≤ f ∨ Rd.form l f n = none)) ∨
  ∃ zs : List Int, f ≤ 2 ∧ t ≠ 0 ∧ t ≤ l.length ∧ zs.length = n ∧ Rw.AllFit zs ∧ Nown w' w.heap.size v zs ∧ (Rd.form l f n = none ∨ Rd.form l f n = some (zs, t))
theorem rrow_any (g o c n f : Nat) (l : List UInt8) (w : World) (hn : 1 ≤ n) (hn' : n ≤ 100000) (hf' : f < 256) (hlc : l.length ≤ c) (hm : c ≤ maxLen) (hc : BCells w g o l) (hg : g < w.heap.size) :
    Calls Try.prog 45 #[.slice (some ⟨g, o, none⟩) l.length c, .int .i64 n, .int .u8 f] w fun e w' => ∃ v t, e = .returned (.tuple #[v, .int .i64 (t : Nat)]) ∧ RfVal w w' v t l f n ∧ Below w.heap.size w w' := by
  have K : ∀ {e : Ending} {w' : World}, f ≤ 2 → RfOut w w' e l f n ∧ Below w.heap.size w w' → ∃ v t, e = .returned (.tuple #[v, .int .i64 (t : Nat)]) ∧ RfVal w w' v t l f n ∧ Below w.heap.size w w' := by
    intro e w' hf h
    rcases h with ⟨⟨rfl, h⟩ | ⟨zs, t, v, rfl, h1, h2, h3, h4, h5, h6⟩, hb⟩
    · exact ⟨_, 0, rfl, .inl ⟨rfl, rfl, .inr h⟩, hb⟩
    · exact ⟨_, t, rfl, .inr ⟨zs, hf, h1, h2, h3, h4, h5, h6⟩, hb⟩
  rcases (show f = 0 ∨ f = 1 ∨ f = 2 ∨ 3 ≤ f by omega) with rfl | rfl | rfl | hf
  · exact (rrow_0 g o c n l w hn hn' hlc hm hc hg).mono fun _ _ h => K (by omega) h
  · exact (rrow_1 g o c n l w hn hn' hlc hm hc hg).mono fun _ _ h => K (by omega) h
  · exact (rrow_2 g o c n l w hn hn' hlc hm hc hg).mono fun _ _ h => K (by omega) h
  · refine (rrow_big g o c n f l w hn hn' hf hf').mono ?_
    rintro e w' ⟨rfl, rfl⟩
    exact ⟨_, 0, rfl, .inl ⟨rfl, rfl, .inl hf⟩, Below.refl _ _⟩

theorem own_later {w w' : World} {B e size n : Nat} {v : Value} {xs : List Value} (h : w.ownsRow B e size v n xs) (hb : Below w.heap.size w w') : w'.ownsRow B e size v n xs := by
  refine ⟨h.1, ?_⟩
  rcases h.2 with h0 | ⟨g, cap, cur, h1, h2, h3, h4⟩
  · exact .inl h0
  · refine .inr ⟨g, cap, cur, h1, h2, ?_, h4⟩
    rw [hb.block g (Array.getElem?_eq_some_iff.1 h3).1]
    exact h3

/-- Its bytes are the shortest form's just where GetRow takes it. -/
theorem same_best {b : List UInt8} {f n t : Nat} {zs : List Int} (hf : f ≤ 2) (hl : zs.length = n) (hn : n ≤ 100000) (hz : Rw.AllFit zs) (hr : Rd.form b f n = none ∨ Rd.form b f n = some (zs, t)) :
    (tagged zs (Rw.best zs) = UInt8.ofNat f :: b.take t) ↔ (Rd.form b f n = some (zs, t) ∧ Rw.best zs = f) := by
  have h2 := Rw.best_le zs
  constructor
  · intro h
    unfold tagged at h
    obtain ⟨h3, h4⟩ := List.cons.inj h
    have h5 : Rw.best zs = f := by
      have := congrArg UInt8.toNat h3
      rw [UInt8.toNat_ofNat_of_lt' (by show _ < 256; omega), UInt8.toNat_ofNat_of_lt' (by show _ < 256; omega)] at this
      exact this
    refine ⟨?_, h5⟩
    rcases hr with hr | hr
    · exfalso
      rw [h5] at h4
      have h6 := form_put hz (by omega) hf (b.drop t)
      rw [h4, List.take_append_drop, hl, hr] at h6
      cases h6
    · exact hr
  · rintro ⟨h3, h4⟩
    unfold tagged
    rw [h4, form_back hf h3]
end Go.Proofs.Ytoccbeefmagklaa
