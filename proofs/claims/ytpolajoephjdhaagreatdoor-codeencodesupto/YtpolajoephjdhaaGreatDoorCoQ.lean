/-
  Read, as a plain function; what it hands back.
-/
import Derived.Test.YtpolajoephjdhaaGreatDoorCoP
namespace Go.Proofs.YtpolajoephjdhaaGreatDoor
open Go.RowKit
set_option maxRecDepth 100000
def rdC (tot : Nat) : Nat → Nat → List UInt8 → Nat ⊕ List Ins
  | 0, _, _ => .inr []
  | f + 1, k, rest => if rest = [] then .inr [] else if !(hasC 10 rest) || !(insRd (bef 10 rest)) || k == 2000 then .inl (tot - rest.length) else
    match rdC tot f (k + 1) (aft 10 rest) with
    | .inl a => .inl a
    | .inr l => .inr (insOf (bef 10 rest) :: l)
def rdJ (r : Rt) (done : List Ins) : Nat ⊕ List Ins → Nat ⊕ Rt
  | .inl a => .inl a
  | .inr l => .inr ⟨r.name, r.pa, r.lo, done ++ l⟩
/-- What a text is read as: a routine, or the place of what is wrong. -/
def readF (s : List UInt8) : Nat ⊕ Rt := if hasC 10 s && headRd (bef 10 s) then rdJ (headOf (bef 10 s)) [] (rdC s.length s.length 0 (aft 10 s)) else .inl 0
theorem aft_lt (c : UInt8) : ∀ l : List UInt8, l ≠ [] → (aft c l).length < l.length
  | [], h => absurd rfl h
  | b :: l, _ => by
    rw [aft]
    split
    · simp
    · by_cases h : l = []
      · subst h; simp [aft]
      · have := aft_lt c l h; simp; omega
theorem rdC_end (tot f k : Nat) : rdC tot f k [] = .inr [] := by cases f <;> simp [rdC]
theorem rdC_bad {tot f k : Nat} {rest : List UInt8} (hf : rest.length ≤ f) (h0 : rest ≠ []) (h : hasC 10 rest = false ∨ insRd (bef 10 rest) = false ∨ k = 2000) : rdC tot f k rest = .inl (tot - rest.length) := by
  cases f with
  | zero => cases rest with
    | nil => exact absurd rfl h0
    | cons b l => simp at hf
  | succ f =>
    rw [rdC, if_neg h0, if_pos]
    rcases h with h | h | h <;> simp [h]
theorem rdC_go {tot f k : Nat} {rest : List UInt8} (hf : rest.length ≤ f) (h0 : rest ≠ []) (h1 : hasC 10 rest = true) (h2 : insRd (bef 10 rest) = true) (h3 : k ≠ 2000) (r : Rt) (done : List Ins) :
    rdJ r done (rdC tot f k rest) = rdJ r (done ++ [insOf (bef 10 rest)]) (rdC tot (f - 1) (k + 1) (aft 10 rest)) := by
  cases f with
  | zero => cases rest with
    | nil => exact absurd rfl h0
    | cons b l => simp at hf
  | succ f =>
    rw [rdC, if_neg h0, if_neg (by simp [h1, h2, h3]), Nat.add_sub_cancel]
    cases rdC tot f (k + 1) (aft 10 rest) with
    | inl a => rfl
    | inr l => simp [rdJ]
/-- Instructions as cells. -/
def insC (l : List Ins) : List Value := l.flatMap fun i => [.int .i64 i.op, .int .i64 i.a]
theorem insC_snoc (l : List Ins) (i : Ins) : insC (l ++ [i]) = insC l ++ [.int .i64 i.op, .int .i64 i.a] := by simp [insC]
theorem insC_len : ∀ l : List Ins, (insC l).length = l.length * 2
  | [] => rfl
  | i :: l => by
    have := insC_len l
    unfold insC at this ⊢
    rw [List.flatMap_cons, List.length_append, this]
    simp
    omega
theorem insC_at : ∀ (l : List Ins) (k : Nat) (h : k < l.length), (insC l)[k * 2]? = some (.int .i64 l[k].op) ∧ (insC l)[k * 2 + 1]? = some (.int .i64 l[k].a)
  | i :: l, 0, _ => ⟨rfl, rfl⟩
  | i :: l, k + 1, h => by
    have := insC_at l k (by simpa using h)
    unfold insC at this ⊢
    rw [List.flatMap_cons]
    refine ⟨?_, ?_⟩
    · rw [show (k + 1) * 2 = 2 + k * 2 by omega, List.getElem?_append_right (by simp)]
      simpa using this.1
    · rw [show (k + 1) * 2 + 1 = 2 + (k * 2 + 1) by omega, List.getElem?_append_right (by simp)]
      simpa using this.2
theorem own_il {w : World} {B e : Nat} {v : Value} {l : List Ins} (h : w.ownsRow B e 2 v l.length (insC l)) (h6 : ∀ i ∈ l, I6 i.op ∧ I6 i.a) : Il (fun j => B ≤ j) w v l := by
  by_cases h0 : 0 < l.length
  · have hc := h
    obtain ⟨-, ⟨-, h'⟩ | ⟨g, cap, cur, rfl, hB, hg, h1, h2, -⟩⟩ := h
    · omega
    · refine ⟨some ⟨g, 0, none⟩, cap, rfl, h1, h2, fun _ => ⟨g, 0, rfl, hB, fun i hi => ?_⟩⟩
      obtain ⟨a, b⟩ := h6 l[i] (List.getElem_mem hi)
      obtain ⟨p, q⟩ := insC_at l i hi
      have cc := fun j hj => hc.cellAt j hj
      rw [Nat.zero_add]
      have hl := insC_len l
      refine ⟨a, b, ?_, ?_⟩
      · have := cc (i * 2) (by omega)
        rw [p] at this
        simpa using this
      · have := cc (i * 2 + 1) (by omega)
        rw [q] at this
        simpa using this
  · obtain ⟨ao, c, rfl⟩ := own_len h
    have hcap := own_cap h
    exact ⟨ao, c, rfl, hcap.1, by unfold maxLen; omega, fun h => absurd h h0⟩
/-- What Read hands back. -/
def RdOut (W : World) (r : Nat ⊕ Rt) (e : Ending) (w' : World) : Prop :=
  Below W.heap.size W w' ∧ match r with
  | .inl a => ∃ N, e = .returned (.tuple #[.agg #[.string ⟨#[]⟩, .int .i64 0, .int .i64 0, .slice none 0 0], .iface 74 (.pointer (some ⟨N, 0, none⟩))]) ∧ W.heap.size ≤ N ∧ w'.heap[N]? = some (.cells #[.int .i64 (a : Int), .int .i64 130] 76 (0, 0))
  | .inr r => ∃ vc, e = .returned (.tuple #[rtV r vc, .nilIface]) ∧ w'.ownsRow W.heap.size 56 2 vc r.code.length (insC r.code)
def szOf : Value → Nat
  | .string s => s.size
  | _ => 0
theorem infoI : (Tryz.prog.info? 56).map (fun i => (i.zero, i.size, i.bytes)) = some (some (.agg #[.int .i64 0, .int .i64 0]), 2, 16) := by kernel_rfl
end Go.Proofs.YtpolajoephjdhaaGreatDoor
