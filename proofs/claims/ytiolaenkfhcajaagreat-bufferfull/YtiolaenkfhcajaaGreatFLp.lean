/-
  Buffer, full: All of a row, with the ops; the keys.
-/
import Derived.Test.YtiolaenkfhcajaaGreatMgD
import Derived.Test.YtiolaenkfhcajaaGreatFPut
namespace Go.Proofs.YtiolaenkfhcajaaGreat
open Go.RowKit
set_option maxRecDepth 100000
section
variable {B g gx : Nat} {W w' : World} {key : Nat → Int × Int} {row : List Nat}
/-- All: the numbers and the ops. -/
theorem ball_row2 {n : Nat} (h : Bk B W g gx key (List.range n)) (hn : n ≤ 100000) (hp : 0 < n) :
    Calls Tryz.prog 12 #[.pointer (some ⟨g, 0, none⟩)] W fun e w' => ∃ gl c, ∃ t : List Nat, e = .returned (.slice (some ⟨gl, 0, none⟩) n c) ∧ (t.length = n ∧ (∀ p ∈ t, p < n) ∧ t.Pairwise (fun p q => ltT (key p) (key q) ∨ key p = key q ∧ p < q)) ∧ (∀ j (hj : j < t.length), w'.cell? ⟨gl, j * 6, none⟩ = some (.int .i64 4) ∧ w'.cell? ⟨gl, j * 6 + 3, none⟩ = some (.int .i64 (t[j] : Int))) ∧ Below W.heap.size W w' := by
  obtain ⟨S, U, m, f, hb, hs, hu⟩ := h
  refine (ball_any hb (by rw [List.length_range]; exact hn)).mono ?_
  rintro e w' ⟨v, ss, l, rfl, ⟨q1, q2⟩, ⟨q3, q4⟩, q5, q6⟩
  obtain ⟨t, h1, h2, h3, h4⟩ := all_told q1 q2
  have hl : l.length = n := by rw [q3, h1, List.length_map, h2]
  rcases q5.2 with ⟨-, e0⟩ | ⟨gl, c, cur, rfl, -, -, -⟩
  · omega
  · refine ⟨gl, c, t, by rw [hl], ⟨h2, h3, h4⟩, fun j hj => ?_, q6⟩
    have hjl : j < l.length := by omega
    have hja : j < (allL (LK key (List.range n)) ss).length := by rw [h1, List.length_map]; exact hj
    have hkd : l[j].kd = (t[j] : Int) := by
      rw [(q4 j hjl hja).2]
      simp [h1, cmR]
    have hop : l[j].op = 4 := by
      rw [(q4 j hjl hja).1]
      simp [h1, cmR]
    obtain ⟨c0, -, -, c3, -, -⟩ := cz_at l j hjl
    rw [hkd] at c3
    rw [hop] at c0
    refine ⟨?_, ?_⟩
    · have h9 := (q5.cellAt (j * 6) (by omega)).trans c0
      first
      | exact h9
      | simpa using h9
    · have h9 := (q5.cellAt (j * 6 + 3) (by omega)).trans c3
      first
      | exact h9
      | simpa using h9
end
def keyF (ss is : List Int) (n : Nat) : Int × Int := (atN ss n, atN is n)
end Go.Proofs.YtiolaenkfhcajaaGreat
