/-
  The document's way to read lines, as plain functions, against the code's.
-/
import Derived.Test.YtpolajoephjdhaaGreatDoorCoT
namespace Go.Proofs.YtpolajoephjdhaaGreatDoor
open Go.RowKit
set_option maxRecDepth 100000
/-! ### Words -/
def wordsN : Nat → List UInt8 → List (List UInt8)
  | 0, l => [l]
  | n + 1, l => if hasC 32 l then bef 32 l :: wordsN n (aft 32 l) else [l]
def wordsF (l : List UInt8) : List (List UInt8) := wordsN l.length l
theorem has_ne {c : UInt8} {l : List UInt8} (h : hasC c l = true) : l ≠ [] := fun e => by subst e; simp [hasC] at h
theorem wordsN_fuel : ∀ (n m : Nat) (l : List UInt8), l.length ≤ n → l.length ≤ m → wordsN n l = wordsN m l
  | 0, 0, _, _, _ => rfl
  | 0, m + 1, l, h, _ => by
    obtain rfl : l = [] := List.length_eq_zero_iff.1 (by omega)
    rfl
  | n + 1, 0, l, _, h => by
    obtain rfl : l = [] := List.length_eq_zero_iff.1 (by omega)
    rfl
  | n + 1, m + 1, l, h1, h2 => by
    rw [wordsN, wordsN]
    by_cases hc : hasC 32 l = true
    · rw [if_pos hc, if_pos hc, wordsN_fuel n m]
      · have := aft_lt 32 l (has_ne hc); omega
      · have := aft_lt 32 l (has_ne hc); omega
    · rw [if_neg hc, if_neg hc]
theorem wordsF_yes {l : List UInt8} (h : hasC 32 l = true) : wordsF l = bef 32 l :: wordsF (aft 32 l) := by
  unfold wordsF
  have := aft_lt 32 l (has_ne h)
  obtain ⟨n, hn⟩ : ∃ n, l.length = n + 1 := ⟨l.length - 1, by omega⟩
  rw [hn, wordsN, if_pos h, wordsN_fuel n (aft 32 l).length _ (by omega) (Nat.le_refl _)]
theorem wordsF_no {l : List UInt8} (h : hasC 32 l = false) : wordsF l = [l] := by
  unfold wordsF
  cases hl : l.length with
  | zero => rfl
  | succ n => rw [wordsN, if_neg (by rw [h]; simp)]
theorem wordsF_ne (l : List UInt8) : wordsF l ≠ [] := by
  cases h : hasC 32 l with
  | true => rw [wordsF_yes h]; simp
  | false => rw [wordsF_no h]; simp
theorem words_cons {a r : List UInt8} (h : 32 ∉ a) : wordsF (a ++ 32 :: r) = a :: wordsF r := by
  obtain ⟨h1, h2, h3⟩ := cut_at 32 a r h
  rw [wordsF_yes h3, h1, h2]
theorem words_one {a : List UInt8} (h : 32 ∉ a) : wordsF a = [a] := wordsF_no (cut_none 32 a h).2.2
theorem bef_no (c : UInt8) : ∀ l : List UInt8, c ∉ bef c l
  | [], h => by simp [bef] at h
  | b :: l, h => by
    rw [bef] at h
    split at h
    · simp at h
    · rename_i hb
      rcases List.mem_cons.1 h with rfl | h
      · simp at hb
      · exact bef_no c l h
theorem hasC_mem (c : UInt8) : ∀ l : List UInt8, hasC c l = false → c ∉ l
  | [], _, h => by simp at h
  | b :: l, h, hm => by
    rw [hasC] at h
    split at h
    · simp at h
    · rename_i hb
      rcases List.mem_cons.1 hm with rfl | hm
      · simp at hb
      · exact hasC_mem c l h hm
theorem words_inv1 {l a : List UInt8} (h : wordsF l = [a]) : l = a ∧ 32 ∉ a ∧ hasC 32 l = false := by
  cases hc : hasC 32 l with
  | true =>
    rw [wordsF_yes hc] at h
    injection h with h1 h2
    exact absurd h2 (wordsF_ne _)
  | false =>
    rw [wordsF_no hc] at h
    injection h with h1
    subst h1
    exact ⟨rfl, hasC_mem 32 l hc, rfl⟩
theorem words_inv2 {l a b : List UInt8} {ws : List (List UInt8)} (h : wordsF l = a :: b :: ws) : hasC 32 l = true ∧ bef 32 l = a ∧ wordsF (aft 32 l) = b :: ws ∧ l = a ++ 32 :: aft 32 l := by
  cases hc : hasC 32 l with
  | true =>
    rw [wordsF_yes hc] at h
    injection h with h1 h2
    refine ⟨rfl, h1, h2, ?_⟩
    have := has_split 32 l hc
    rw [h1] at this
    exact this
  | false =>
    rw [wordsF_no hc] at h
    simp at h
/-! ### Numbers -/
/-- The number that digits say, as the document reckons it. -/
def dnF (neg : Bool) : List UInt8 → Int → Option Int
  | [], n => some n
  | c :: l, n => if 48 ≤ c.toNat ∧ c.toNat ≤ 57 then dnF neg l (if neg then IntKind.i64.wrap (IntKind.i64.wrap (10 * n) - ((c.toNat - 48 : Nat) : Int)) else IntKind.i64.wrap (IntKind.i64.wrap (10 * n) + ((c.toNat - 48 : Nat) : Int))) else none
def negL (l : List UInt8) : Bool := l.head? == some 45
def numD (l : List UInt8) : Option Int := if negL l then dnF true l.tail 0 else dnF false l 0
/-- Is it a number, as decimal writes it? -/
def numOk (l : List UInt8) : Bool := match numD l with
  | some n => decide (Lib.itoa n = l)
  | none => false
def numVal (l : List UInt8) : Int := (numD l).getD 0
theorem wrap_eq (n : Int) : IntKind.i64.wrap n = if n % 18446744073709551616 ≥ 9223372036854775808 then n % 18446744073709551616 - 18446744073709551616 else n % 18446744073709551616 := by
  unfold IntKind.wrap
  have e1 : IntKind.i64.bits = 64 := rfl
  have e2 : IntKind.i64.signed = true := rfl
  simp [e1, e2]
theorem wrap_six (n : Int) : I6 (IntKind.i64.wrap n) := by
  rw [wrap_eq]
  unfold I6
  split <;> omega
theorem wrap_is {n : Int} (h : I6 n) : IntKind.i64.wrap n = n := by
  obtain ⟨h1, h2⟩ := h
  rw [wrap_eq]
  split <;> omega
theorem dnF_six (neg : Bool) : ∀ (l : List UInt8) (n m : Int), I6 n → dnF neg l n = some m → I6 m
  | [], n, m, h, e => by
    rw [dnF] at e
    injection e with e
    exact e ▸ h
  | c :: l, n, m, h, e => by
    rw [dnF] at e
    split at e
    · refine dnF_six neg l _ m ?_ e
      split <;> exact wrap_six _
    · cases e
theorem numD_six {l : List UInt8} {m : Int} (h : numD l = some m) : I6 m := by
  unfold numD at h
  split at h <;> exact dnF_six _ _ _ _ ⟨by omega, by omega⟩ h
theorem dnF_pos : ∀ (l : List UInt8) (acc : Nat), Dig l → valD l acc ≤ 9223372036854775807 → dnF false l (acc : Int) = some (valD l acc : Int)
  | [], acc, _, _ => rfl
  | c :: r, acc, hd, hv => by
    have hc := hd c (by simp)
    have hr : Dig r := fun x hx => hd x (by simp [hx])
    rw [valD] at hv ⊢
    have hg := valD_ge r (acc * 10 + (c.toNat - 48))
    rw [dnF, if_pos hc, if_neg (by simp), wrap_is (n := 10 * (acc : Int)) ⟨by omega, by omega⟩, wrap_is ⟨by omega, by omega⟩]
    have : 10 * (acc : Int) + ((c.toNat - 48 : Nat) : Int) = ((acc * 10 + (c.toNat - 48) : Nat) : Int) := by omega
    rw [this]
    exact dnF_pos r _ hr hv
theorem dnF_neg : ∀ (l : List UInt8) (acc : Nat), Dig l → valD l acc ≤ 9223372036854775808 → dnF true l (-(acc : Int)) = some (-(valD l acc : Int))
  | [], acc, _, _ => rfl
  | c :: r, acc, hd, hv => by
    have hc := hd c (by simp)
    have hr : Dig r := fun x hx => hd x (by simp [hx])
    rw [valD] at hv ⊢
    have hg := valD_ge r (acc * 10 + (c.toNat - 48))
    rw [dnF, if_pos hc, if_pos rfl, wrap_is (n := 10 * -(acc : Int)) ⟨by omega, by omega⟩, wrap_is ⟨by omega, by omega⟩]
    have : 10 * -(acc : Int) - ((c.toNat - 48 : Nat) : Int) = -((acc * 10 + (c.toNat - 48) : Nat) : Int) := by omega
    rw [this]
    exact dnF_neg r _ hr hv
theorem numD_itoa {n : Int} (h : I6 n) : numD (Lib.itoa n) = some n := by
  obtain ⟨b1, b2⟩ := h
  unfold numD Lib.itoa
  by_cases hn : n < 0
  · rw [if_pos hn]
    obtain ⟨h1, h2, -⟩ := dec_spec n.natAbs n.natAbs (Nat.le_refl _)
    rw [if_pos (by rfl)]
    have := dnF_neg (Lib.decDigits n.natAbs) 0 h1 (by rw [h2]; omega)
    rw [h2] at this
    show dnF true (Lib.decDigits n.natAbs) 0 = some n
    rw [show (0 : Int) = -((0 : Nat) : Int) from rfl, this]
    congr 1
    omega
  · rw [if_neg hn]
    obtain ⟨h1, h2, h3⟩ := dec_spec n.toNat n.toNat (Nat.le_refl _)
    have hg : negL (Lib.decDigits n.toNat) = false := by
      cases hd : Lib.decDigits n.toNat with
      | nil => exact absurd hd h3
      | cons c r =>
        have hc := h1 c (by rw [hd]; simp)
        unfold negL
        simp only [List.head?_cons]
        rw [Option.some_beq_some]
        rw [beq_eq_false_iff_ne]
        intro e
        subst e
        revert hc
        decide
    rw [hg]
    have := dnF_pos (Lib.decDigits n.toNat) 0 h1 (by rw [h2]; omega)
    rw [h2] at this
    show dnF false (Lib.decDigits n.toNat) 0 = some n
    rw [show (0 : Int) = ((0 : Nat) : Int) from rfl, this]
    congr 1
    omega
theorem numOk_itoa {n : Int} (h : I6 n) : numOk (Lib.itoa n) = true ∧ numVal (Lib.itoa n) = n := by
  unfold numOk numVal
  rw [numD_itoa h]
  exact ⟨by simp, rfl⟩
theorem numOk_inv {l : List UInt8} (h : numOk l = true) : I6 (numVal l) ∧ Lib.itoa (numVal l) = l := by
  unfold numOk at h
  unfold numVal
  cases hd : numD l with
  | none => rw [hd] at h; cases h
  | some n =>
    rw [hd] at h
    exact ⟨numD_six hd, of_decide_eq_true h⟩
theorem numOk_rd {l : List UInt8} (h : numOk l = true) : rdN l = numVal l := by
  obtain ⟨h1, h2⟩ := numOk_inv h
  conv => lhs; rw [← h2]
  exact rdN_itoa h1
/-! ### A first line -/
def firstD (l : List UInt8) : Bool := match wordsF l with
  | [_, b, c] => numOk b && numOk c && decide (numVal b ≤ 4 ∧ numVal c ≤ 32 ∧ 0 ≤ numVal b ∧ 0 ≤ numVal c) && lstOk (headOf l)
  | _ => false
theorem itoa_no32 (n : Int) : (32 : UInt8) ∉ Lib.itoa n := itoa_no ⟨by decide, by decide⟩
theorem head_words {l a b c : List UInt8} (h : wordsF l = [a, b, c]) (hb : numOk b = true) (hc : numOk c = true) : headOf l = ⟨bs a, numVal b, numVal c, []⟩ ∧ headB (headOf l).name (headOf l).pa (headOf l).lo = bs l := by
  obtain ⟨h1, h2, h3, h4⟩ := words_inv2 h
  obtain ⟨k1, k2, k3, k4⟩ := words_inv2 h3
  obtain ⟨m1, m2, m3⟩ := words_inv1 k3
  have e : headOf l = ⟨bs a, numVal b, numVal c, []⟩ := by
    unfold headOf
    rw [h2, k2, m1, numOk_rd hb, numOk_rd hc]
  refine ⟨e, bs_ext ?_⟩
  rw [e, headB_list, (numOk_inv hb).2, (numOk_inv hc).2, toList_bs, toList_bs]
  conv => rhs; rw [h4, k4, m1]
theorem lst_parts {r : Rt} (h : lstOk r = true) : (1 ≤ r.name.size ∧ r.name.size ≤ 16) ∧ (0 ≤ r.pa ∧ r.pa ≤ 4) ∧ (r.pa ≤ r.lo ∧ r.lo ≤ 32) ∧ r.code.length ≤ 2000 := by
  have := lstOk_rt h
  unfold rtOk at this
  simp only [Bool.and_eq_true, decide_eq_true_eq] at this
  exact ⟨this.1.1.1.1, this.1.1.1.2, this.1.1.2, this.1.2⟩
theorem first_is (l : List UInt8) : firstD l = headRd l := by
  rw [Bool.eq_iff_iff]
  constructor
  · intro h
    unfold firstD at h
    split at h
    · rename_i a b c hw
      simp only [Bool.and_eq_true, decide_eq_true_eq] at h
      obtain ⟨⟨⟨h1, h2⟩, -⟩, h3⟩ := h
      obtain ⟨-, e⟩ := head_words hw h1 h2
      unfold headRd
      rw [h3, decide_eq_true e]
      rfl
    · cases h
  · intro h
    unfold headRd at h
    simp only [Bool.and_eq_true, decide_eq_true_eq] at h
    obtain ⟨h1, h2⟩ := h
    have hl : l = (headOf l).name.data.toList ++ 32 :: (Lib.itoa (headOf l).pa ++ 32 :: Lib.itoa (headOf l).lo) := by
      rw [← headB_list, h2, toList_bs]
    have hsn : (headOf l).name.data.toList.all seen = true := by
      have := h1
      unfold lstOk at this
      simp only [Bool.and_eq_true] at this
      exact this.2
    have i1 : I6 (headOf l).pa := rdN_i6 _
    have i2 : I6 (headOf l).lo := rdN_i6 _
    have hw : wordsF l = [(headOf l).name.data.toList, Lib.itoa (headOf l).pa, Lib.itoa (headOf l).lo] := by
      conv => lhs; rw [hl]
      rw [words_cons (seen_no32 hsn).1, words_cons (itoa_no32 _), words_one (itoa_no32 _)]
    unfold firstD
    rw [hw]
    dsimp only
    obtain ⟨n1, n2⟩ := numOk_itoa i1
    obtain ⟨n3, n4⟩ := numOk_itoa i2
    rw [n1, n2, n3, n4, h1]
    obtain ⟨-, ⟨a1, a2⟩, ⟨a3, a4⟩, -⟩ := lst_parts h1
    rw [decide_eq_true ⟨a2, a4, a1, by omega⟩]
    rfl
/-! ### A line -/
def instrD (l : List UInt8) : Bool := match wordsF l with
  | [w] => decide (numOf (bs w) ≠ 0) && !numb (opk (numOf (bs w)))
  | [w, a] => decide (numOf (bs w) ≠ 0) && numb (opk (numOf (bs w))) && numOk a
  | _ => false
theorem numOf_wd {s : ByteArray} (h : numOf s ≠ 0) : wd (numOf s) = s := by
  by_cases hx : ∃ j, 1 ≤ j ∧ j < 40 ∧ wd j = s
  · obtain ⟨j, h1, h2, rfl⟩ := hx
    rw [wd_num_all ⟨j, h2⟩ h1]
  · exact absurd (numOf_no (s := s) (fun j a b e => hx ⟨j, a, b, e⟩)) h
theorem opk_num (s : ByteArray) : opk (numOf s : Int) = numOf s := by
  have := numOf_lt s
  unfold opk
  split <;> omega
theorem rdN_nil : rdN [] = 0 := by unfold rdN Lib.parseIntB; rfl
theorem ins_words1 {l w : List UInt8} (h : wordsF l = [w]) : insOf l = ⟨numOf (bs w), 0⟩ := by
  obtain ⟨h1, h2, h3⟩ := words_inv1 h
  obtain ⟨e1, e2, -⟩ := cut_none 32 w h2
  unfold insOf
  rw [h1, e1, e2, rdN_nil]
theorem ins_words2 {l w a : List UInt8} (h : wordsF l = [w, a]) (ha : numOk a = true) : insOf l = ⟨numOf (bs w), numVal a⟩ := by
  obtain ⟨h1, h2, h3, h4⟩ := words_inv2 h
  obtain ⟨m1, m2, m3⟩ := words_inv1 h3
  unfold insOf
  rw [h2, m1, numOk_rd ha]
theorem instr_is (l : List UInt8) : instrD l = insRd l := by
  rw [Bool.eq_iff_iff]
  constructor
  · intro h
    unfold instrD at h
    split at h
    · rename_i w hw
      simp only [Bool.and_eq_true, decide_eq_true_eq, Bool.not_eq_true'] at h
      obtain ⟨h1, h2⟩ := h
      have e := ins_words1 hw
      obtain ⟨m1, m2, m3⟩ := words_inv1 hw
      have hlt := numOf_lt (bs w)
      have hi : isIns ⟨numOf (bs w), 0⟩ = true := by
        unfold isIns
        simp only [Bool.and_eq_true, decide_eq_true_eq]
        exact ⟨⟨by omega, by omega⟩, by simp⟩
      have hb : lineB ⟨numOf (bs w), 0⟩ = bs l := by
        unfold lineB
        dsimp only
        rw [if_neg (by rw [h2]; simp), opk_num, numOf_wd h1, m1]
      unfold insRd
      rw [e, hi, decide_eq_true hb]
      rfl
    · rename_i w a hw
      simp only [Bool.and_eq_true, decide_eq_true_eq] at h
      obtain ⟨⟨h1, h2⟩, h3⟩ := h
      have e := ins_words2 hw h3
      obtain ⟨k1, k2, k3, k4⟩ := words_inv2 hw
      obtain ⟨m1, m2, m3⟩ := words_inv1 k3
      have hlt := numOf_lt (bs w)
      have hi : isIns ⟨numOf (bs w), numVal a⟩ = true := by
        unfold isIns
        simp only [Bool.and_eq_true, decide_eq_true_eq]
        exact ⟨⟨by omega, by omega⟩, by rw [h2]; simp⟩
      have hb : lineB ⟨numOf (bs w), numVal a⟩ = bs l := by
        refine bs_ext ?_
        rw [lineB_list]
        dsimp only
        rw [if_pos h2, opk_num, (numOk_inv h3).2, toList_bs]
        have : wdL (numOf (bs w)) = w := congrArg (fun x : ByteArray => x.data.toList) (numOf_wd h1)
        rw [this]
        conv => rhs; rw [k4, m1]
      unfold insRd
      rw [e, hi, decide_eq_true hb]
      rfl
    · cases h
  · intro h
    unfold insRd at h
    simp only [Bool.and_eq_true, decide_eq_true_eq] at h
    obtain ⟨h1, h2⟩ := h
    have h1' := h1
    unfold isIns at h1'
    simp only [Bool.and_eq_true, decide_eq_true_eq] at h1'
    obtain ⟨⟨a1, a2⟩, -⟩ := h1'
    have hl : l = (lineB (insOf l)).data.toList := by rw [h2, toList_bs]
    have ho : opk (insOf l).op < 40 := opk_lt _
    have hk : opk (insOf l).op = (insOf l).op.toNat := opk_in ⟨a1, a2⟩
    have hw : numOf (bs (wdL (opk (insOf l).op))) = opk (insOf l).op := wd_num_all ⟨opk (insOf l).op, ho⟩ (by show 1 ≤ opk (insOf l).op; rw [hk]; omega)
    have n32 : (32 : UInt8) ∉ wdL (opk (insOf l).op) := wd_no ho (by decide)
    have hx : opk ((opk (insOf l).op : Nat) : Int) = opk (insOf l).op := by
      rw [hk]
      unfold opk
      split <;> omega
    rw [lineB_list] at hl
    by_cases hn : numb (opk (insOf l).op) = true
    · rw [if_pos hn] at hl
      have hws : wordsF l = [wdL (opk (insOf l).op), Lib.itoa (insOf l).a] := by
        conv => lhs; rw [hl]
        rw [words_cons n32, words_one (itoa_no32 _)]
      unfold instrD
      rw [hws]
      dsimp only
      rw [hw, hx, hn, (numOk_itoa (show I6 (insOf l).a from rdN_i6 _)).1, decide_eq_true (by rw [hk]; omega)]
      rfl
    · rw [if_neg hn] at hl
      have hws : wordsF l = [wdL (opk (insOf l).op)] := by
        conv => lhs; rw [hl]
        rw [words_one n32]
      unfold instrD
      rw [hws]
      dsimp only
      rw [hw, hx, decide_eq_true (by rw [hk]; omega)]
      simpa using hn
end Go.Proofs.YtpolajoephjdhaaGreatDoor
