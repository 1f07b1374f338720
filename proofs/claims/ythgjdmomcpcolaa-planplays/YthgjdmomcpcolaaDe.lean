/-
  Lists as they came and their sets: the same conflicts, the same stages, the same legal orders.
-/
import Derived.Test.YthgjdmomcpcolaaDc
namespace Go.Proofs.Ythgjdmomcpcolaa
theorem sg_le_of {L M : List Sy} (hl : L.length = M.length) (hc : ∀ i k, i < L.length → k < L.length → cn L i k = cn M i k) : ∀ m x, x < m → x < L.length → sg L x ≤ sg M x := by
  intro m
  induction m with
  | zero => exact fun x h => absurd h (by omega)
  | succ m ih =>
    intro x h1 h2
    rcases sg_why L x h2 with h | ⟨k, k1, k2, k3⟩
    · omega
    · have e1 := ih k (by omega) (by omega)
      rw [hc k x (by omega) h2] at k2
      have e2 := sg_lt M k x k1 (by omega) k2
      omega
theorem sg_same {L M : List Sy} (hl : L.length = M.length) (hc : ∀ i k, i < L.length → k < L.length → cn L i k = cn M i k) (x : Nat) (hx : x < L.length) : sg L x = sg M x :=
  Nat.le_antisymm (sg_le_of hl hc (x + 1) x (by omega) hx) (sg_le_of hl.symm (fun i k h1 h2 => (hc i k (by omega) (by omega)).symm) (x + 1) x (by omega) (by omega))
theorem StOf.same {L M : List Sy} (hl : L.length = M.length) (hc : ∀ i k, i < L.length → k < L.length → cn L i k = cn M i k) {sts : List (List Nat)} (h : StOf L L.length sts) : StOf M M.length sts := by
  rw [← hl]
  refine ⟨fun k hk => by rw [← sg_same hl hc k hk]; exact h.1 k hk, fun j hj => ⟨?_, (h.2 j hj).2⟩⟩
  rw [(h.2 j hj).1]
  apply List.filter_congr
  intro k hk
  rw [sg_same hl hc k (List.mem_range.1 hk)]
theorem cz_same {L M : List Sy} (hl : L.length = M.length) (hc : ∀ i k, i < L.length → k < L.length → cn L i k = cn M i k) (a b : Int) : cz L a b = cz M a b := by
  unfold cz
  rw [← hl]
  by_cases h : a ≠ b ∧ (0 ≤ a ∧ a < L.length) ∧ (0 ≤ b ∧ b < L.length)
  · rw [decide_eq_true h, hc _ _ (by omega) (by omega)]
  · rw [decide_eq_false h, Bool.false_and, Bool.false_and]
/-- The sets of a list of systems conflict as the systems do. -/
theorem cn_sets (L : List Sy) : ∀ i k, i < L.length → k < L.length → cn L i k = cn (L.map setS) i k := fun i k h1 h2 => by
  rw [cn_at L i k h1 h2, cn_at (L.map setS) i k (by simpa using h1) (by simpa using h2), List.getElem_map, List.getElem_map]
  exact (cf_alike (setS_alike _) (setS_alike _)).symm
theorem sets_len (L : List Sy) : L.length = (L.map setS).length := by simp
theorem cz_sets (L : List Sy) (a b : Int) : cz L a b = cz (L.map setS) a b := cz_same (sets_len L) (cn_sets L) a b
theorem StOf.sets {L : List Sy} {sts : List (List Nat)} (h : StOf L L.length sts) : StOf (L.map setS) (L.map setS).length sts := h.same (sets_len L) (cn_sets L)
theorem Lg.sets {L : List Sy} {o : List Int} : Lg L o ↔ Lg (L.map setS) o :=
  ⟨Lg.same (sets_len L) (cn_sets L), Lg.same (sets_len L).symm (fun i k h1 h2 => (cn_sets L i k (by simpa using h1) (by simpa using h2)).symm)⟩
end Go.Proofs.Ythgjdmomcpcolaa
