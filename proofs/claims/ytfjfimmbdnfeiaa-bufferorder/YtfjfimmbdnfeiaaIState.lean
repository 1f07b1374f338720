/-
  State.
-/
import Derived.Test.YtfjfimmbdnfeiaaIClone
namespace Go.Proofs.Ytfjfimmbdnfeiaa
open Go.RowKit
set_option maxRecDepth 100000
theorem nodup_len : ∀ (n : Nat) (l : List Nat), l.Nodup → (∀ x ∈ l, x < n) → l.length ≤ n
  | 0, l, _, h => by
    cases l with
    | nil => simp
    | cons x t => have := h x (by simp); omega
  | n + 1, l, hd, h => by
    by_cases hn : n ∈ l
    · have := nodup_len n (l.erase n) (hd.erase n) (fun x hx => by
        have h1 := hd.mem_erase_iff.1 hx
        have := h x h1.2
        have := h1.1
        omega)
      rw [List.length_erase_of_mem hn] at this
      omega
    · have := nodup_len n l hd (fun x hx => by
        have h1 := h x hx
        have : x ≠ n := fun e => hn (e ▸ hx)
        omega)
      omega
theorem Ok.free_len {n : Nat} {gs fr : List Nat} (h : Ok n gs fr) : fr.length ≤ gs.length := nodup_len _ _ h.2.2.2.2.1 (fun x hx => (h.2.2.2.2.2 x hx).1)
end Go.Proofs.Ytfjfimmbdnfeiaa
