import Derived.Test.YtmfoehaeejhlpaaGreatDoorGaAT
import Derived.Test.YtmfoehaeejhlpaaGreatDoorGaAW
/-
  The chapter's example: its tree, its text.
-/
namespace Go.Proofs.YtmfoehaeejhlpaaGreatDoor
open Go.RowKit Yn
set_option maxRecDepth 1000000
def exSrc : ByteArray := ⟨#[115, 121, 115, 116, 101, 109, 32, 77, 32, 114, 101, 97, 100, 115, 32, 86, 32, 119, 114, 105, 116, 101, 115, 32, 80, 123, 80, 46, 120, 61, 80, 46, 120, 43, 86, 46, 120, 59, 125, 102, 117, 110, 99, 32, 102, 40, 97, 41, 123, 114, 101, 116, 117, 114, 110, 32, 97, 45, 40, 49, 45, 50, 41, 42, 45, 51, 59, 125]⟩
def exBad : ByteArray := ⟨#[115, 121, 115, 116, 101, 109, 32, 83, 32, 123, 32, 108, 101, 116, 32, 120, 32, 61, 32, 59, 32, 125]⟩
def exOut : List UInt8 := [115, 121, 115, 116, 101, 109, 32, 77, 32, 114, 101, 97, 100, 115, 32, 86, 32, 119, 114, 105, 116, 101, 115, 32, 80, 32, 123, 10, 9, 80, 46, 120, 32, 61, 32, 80, 46, 120, 32, 43, 32, 86, 46, 120, 59, 10, 125, 10, 102, 117, 110, 99, 32, 102, 40, 97, 41, 32, 123, 10, 9, 114, 101, 116, 117, 114, 110, 32, 97, 32, 45, 32, 40, 49, 32, 45, 32, 50, 41, 32, 42, 32, 45, 51, 59, 10, 125, 10]
def exT : Tree := (.mk 1 (bs []) 0 [(.mk 2 (bs [77]) 0 [(.mk 3 (bs [119, 105, 116, 104]) 0 [] 25), (.mk 3 (bs [119, 105, 116, 104, 111, 117, 116]) 0 [] 25), (.mk 3 (bs [114, 101, 97, 100, 115]) 0 [(.mk 31 (bs [86]) 0 [] 15)] 9), (.mk 3 (bs [119, 114, 105, 116, 101, 115]) 0 [(.mk 31 (bs [80]) 0 [] 24)] 17), (.mk 5 (bs []) 0 [(.mk 12 (bs [80]) 0 [(.mk 31 (bs [120]) 0 [] 28), (.mk 33 (bs [43]) 0 [(.mk 32 (bs [80]) 0 [(.mk 31 (bs [120]) 0 [] 32)] 30), (.mk 32 (bs [86]) 0 [(.mk 31 (bs [120]) 0 [] 36)] 34)] 33)] 26)] 25)] 0), (.mk 4 (bs [102]) 0 [(.mk 3 (bs [102, 117, 110, 99]) 0 [(.mk 31 (bs [97]) 0 [] 46)] 45), (.mk 5 (bs []) 0 [(.mk 22 (bs []) 0 [(.mk 33 (bs [45]) 0 [(.mk 31 (bs [97]) 0 [] 56), (.mk 33 (bs [42]) 0 [(.mk 33 (bs [45]) 0 [(.mk 30 (bs []) 1 [] 59), (.mk 30 (bs []) 2 [] 61)] 60), (.mk 34 (bs [45]) 0 [(.mk 30 (bs []) 3 [] 65)] 64)] 63)] 57)] 49)] 48)] 39)] 0)
theorem ex_bad : parseT exBad = .no 19 100 := by kernel_rfl
theorem ex_ok : parseT exSrc = .ok exT ⟨[⟨0, exSrc.extract 68 68, 68⟩], 1, 1, 2, 0⟩ := by kernel_rfl
theorem ex_out : prPg 10 (lsT exT) = exOut := by kernel_rfl
end Go.Proofs.YtmfoehaeejhlpaaGreatDoor

/-
  What is well formed, as a reckoning.
-/
namespace Go.Proofs.YtmfoehaeejhlpaaGreatDoor
open Go.RowKit Yn
set_option maxRecDepth 1000000
def nmB (s : ByteArray) : Bool := (match lxS s with | .ok (t :: _) => decide (t.k = 1) && decide (t.t = s) | _ => false) && !(inW wsB s)
theorem nm_of {s : ByteArray} (h : nmB s = true) : nmOk s := by
  unfold nmB at h
  rw [Bool.and_eq_true] at h
  obtain ⟨h1, h2⟩ := h
  refine ⟨?_, fun hm => ?_⟩
  · split at h1
    · rename_i t ts e
      rw [Bool.and_eq_true, decide_eq_true_eq, decide_eq_true_eq] at h1
      exact ⟨t, ts, e, h1.1, h1.2⟩
    · cases h1
  · have : inW wsB s = true := List.any_eq_true.2 ⟨s, hm, by simp⟩
    rw [this] at h2
    cases h2
instance (r op : Nat) (t : ByteArray) : Decidable (tkP r op t) := by unfold tkP; infer_instance
def isNmB (op : Nat) : Bool := decide (op = 2 ∨ op = 4 ∨ op = 10 ∨ op = 11 ∨ op = 12 ∨ op = 19 ∨ op = 23 ∨ op = 24 ∨ op = 31 ∨ op = 32 ∨ op = 37)
def txB (op : Nat) (t : ByteArray) : Bool := (isNmB op && nmB t) || decide (op = 3) || decide (op = 33 ∧ binding t ≠ 0) || decide (op = 34 ∧ t = bs [45]) || decide (op = 34 ∧ t = bs [33]) || decide (op = 36 ∧ isBuiltIn t = true) || (decide (op = 36 ∧ isBuiltIn t = false) && nmB t) || decide (op = 38 ∧ t = bs [116, 105, 99, 107]) || decide (op = 38 ∧ t = bs [109, 101]) || decide ((op ≠ 2 ∧ op ≠ 3 ∧ op ≠ 4 ∧ op ≠ 10 ∧ op ≠ 11 ∧ op ≠ 12 ∧ op ≠ 19 ∧ op ≠ 23 ∧ op ≠ 24 ∧ op ≠ 31 ∧ op ≠ 32 ∧ op ≠ 33 ∧ op ≠ 34 ∧ op ≠ 36 ∧ op ≠ 37 ∧ op ≠ 38) ∧ t = bs [])
theorem tx_of {op : Nat} {t : ByteArray} (h : txB op t = true) : txOk op t := by
  unfold txB isNmB at h
  simp only [Bool.or_eq_true, Bool.and_eq_true, decide_eq_true_eq] at h
  unfold txOk
  rcases h with ((((((((h | h) | h) | h) | h) | h) | h) | h) | h) | h
  · exact .inl ⟨h.1, nm_of h.2⟩
  · exact .inr (.inl h)
  · exact .inr (.inr (.inl h))
  · exact .inr (.inr (.inr (.inl h)))
  · exact .inr (.inr (.inr (.inr (.inl h))))
  · exact .inr (.inr (.inr (.inr (.inr (.inl h)))))
  · exact .inr (.inr (.inr (.inr (.inr (.inr (.inl ⟨h.1.1, h.1.2, nm_of h.2⟩))))))
  · exact .inr (.inr (.inr (.inr (.inr (.inr (.inr (.inl h)))))))
  · exact .inr (.inr (.inr (.inr (.inr (.inr (.inr (.inr (.inl h))))))))
  · exact .inr (.inr (.inr (.inr (.inr (.inr (.inr (.inr (.inr h))))))))
def tksB (op : Nat) : Nat → List Tree → Bool
  | _, [] => true
  | i, t :: ts => decide (tkP (roleAt op i) (opT t) (txT t)) && tksB op (i + 1) ts
theorem tks_of {op : Nat} : ∀ {l : List Tree} {k : Nat}, tksB op k l = true → ∀ i (h : i < l.length), tkP (roleAt op (k + i)) (opT l[i]) (txT l[i])
  | [], _, _, i, h => absurd h (by simp)
  | t :: ts, k, h, i, hi => by
    rw [tksB, Bool.and_eq_true, decide_eq_true_eq] at h
    cases i with
    | zero => exact h.1
    | succ i =>
      have := tks_of h.2 i (by simpa using hi)
      rw [show k + 1 + i = k + (i + 1) by omega] at this
      exact this
mutual
def wfB : Tree → Nat → Bool
  | .mk op t n l _, b => decide (bkN op b ≤ 20) && txB op t && decide (op = 30 → 0 ≤ n) && decide ((fsL op).length ≤ l.length) && decide (l.length ≤ 1048576) && tksB op 0 l && wfBs l (bkN op b)
def wfBs : List Tree → Nat → Bool
  | [], _ => true
  | t :: ts, b => wfB t b && wfBs ts b
end
mutual
theorem wf_of : ∀ (T : Tree) (b : Nat), wfB T b = true → wfT T b
  | .mk op t n l a, b, h => by
    rw [wfB] at h
    simp only [Bool.and_eq_true, decide_eq_true_eq] at h
    obtain ⟨⟨⟨⟨⟨⟨h1, h2⟩, h3⟩, h4⟩, h5⟩, h6⟩, h7⟩ := h
    rw [wfT]
    refine ⟨h1, tx_of h2, h3, h4, h5, fun i hi => ?_, wf_ofs l _ h7⟩
    have := tks_of h6 i hi
    rw [Nat.zero_add] at this
    exact this
theorem wf_ofs : ∀ (l : List Tree) (b : Nat), wfBs l b = true → wfTs l b
  | [], _, _ => by rw [wfTs]; trivial
  | t :: ts, b, h => by
    rw [wfBs, Bool.and_eq_true] at h
    rw [wfTs]
    exact ⟨wf_of t b h.1, wf_ofs ts b h.2⟩
end
theorem wf_ex : wfT exT 0 := wf_of _ _ (by kernel_rfl)
theorem sz_ex : szT exT ≤ 100000 := by
  have : szT exT = 29 := by kernel_rfl
  omega
end Go.Proofs.YtmfoehaeejhlpaaGreatDoor

/-
  The chapter's example, printed.
-/
namespace Go.Proofs.YtmfoehaeejhlpaaGreatDoor
open Go.RowKit Yn
set_option maxRecDepth 1000000
def exS1 : Tree := .mk 12 (bs [80]) 0 [(.mk 31 (bs [120]) 0 [] 28), (.mk 33 (bs [43]) 0 [(.mk 32 (bs [80]) 0 [(.mk 31 (bs [120]) 0 [] 32)] 30), (.mk 32 (bs [86]) 0 [(.mk 31 (bs [120]) 0 [] 36)] 34)] 33)] 26
def exS2 : Tree := .mk 22 (bs []) 0 [(.mk 33 (bs [45]) 0 [(.mk 31 (bs [97]) 0 [] 56), (.mk 33 (bs [42]) 0 [(.mk 33 (bs [45]) 0 [(.mk 30 (bs []) 1 [] 59), (.mk 30 (bs []) 2 [] 61)] 60), (.mk 34 (bs [45]) 0 [(.mk 30 (bs []) 3 [] 65)] 64)] 63)] 57)] 49
theorem sw1 : SW exS1 := sm12 (by simp) (expr_w _ (by simp [okE, okEs]))
theorem sw2 : SW exS2 := sm22 (by simp) (expr_w _ (by simp [okE, okEs]))
theorem blk1 {T : Tree} {op a : Nat} {t : ByteArray} {n : Int} (h : SW T) (h3 : opT T ≠ 13 ∧ opT T ≠ 14 ∧ opT T ≠ 15) : BlkW 10 (.mk op t n [T] a) 0 := by
  refine (all_w 10).2.2 _ 0 (by omega) ?_
  rw [okBk]
  refine ⟨by simp [lsT], fun i hi => ?_⟩
  have hi : i < 1 := hi
  obtain rfl : i = 0 := by omega
  show okSt 9 T
  rw [okSt, if_neg h3.1, if_neg (by omega)]
  exact h
theorem ex_mem : ∀ i (h : i < (lsT exT).length), MW 10 (lsT exT)[i] := by
  intro i h
  have h : i < 2 := h
  match i, h with
  | 0, _ =>
    refine member_s (by simp) (fun i hi h4 => ?_) (blk1 sw1 (by decide))
    match i, h4 with
    | 0, _ => exact clause_w (by simp)
    | 1, _ => exact clause_w (by simp)
    | 2, _ => exact clause_w (by simp)
    | 3, _ => exact clause_w (by simp)
  | 1, _ => exact member_f (by decide) (by simp) (by simp [lsT]) (blk1 sw2 (by decide))
theorem ex_print {W : World} {v : Value} (hnd : Nd (fun q => q < W.heap.size) W exT v) (hK : Kd W) (hpf : Pf W.heap.size W) : Calls Tryz.prog 16 #[v] W fun e w' => e = .returned (.string ⟨exOut.toArray⟩) ∧ Below W.heap.size W w' := by
  have h := print_w (f := 10) (t := bs []) (n := 0) (ts := lsT exT) (a := 0) (wf_w hnd hK wf_ex sz_ex) hnd hpf ex_mem (by decide) (by rw [ex_out]; decide) (by rw [ex_out]; unfold Sz; decide)
  rw [ex_out] at h
  exact h
end Go.Proofs.YtmfoehaeejhlpaaGreatDoor
