/-
  Routines, there and back.
-/
import Derived.Test.YtpolajoephjdhaaGreatDoorCoS
namespace Go.Proofs.YtpolajoephjdhaaGreatDoor
open Go.RowKit
set_option maxRecDepth 100000
theorem wd_num_all : ∀ k : Fin 40, 1 ≤ k.val → numOf (wd k.val) = k.val := by decide +kernel
theorem wd_let_all : ∀ k : Fin 40, (wdL k.val).all (fun c => decide (97 ≤ c.toNat ∧ c.toNat ≤ 122)) = true := by decide +kernel
theorem wd_no {k : Nat} (hk : k < 40) {c : UInt8} (hc : c.toNat < 97) : c ∉ wdL k := fun h => by
  have := List.all_eq_true.1 (wd_let_all ⟨k, hk⟩) c h
  simp at this
  omega
theorem lineB_list (i : Ins) : (lineB i).data.toList = if numb (opk i.op) then wdL (opk i.op) ++ 32 :: Lib.itoa i.a else wdL (opk i.op) := by
  unfold lineB
  split
  · rw [ByteArray.data_append, ByteArray.data_append, Array.toList_append, Array.toList_append]
    simp [wd, itB]
  · rfl
theorem headB_list (nm : ByteArray) (pa lo : Int) : (headB nm pa lo).data.toList = nm.data.toList ++ 32 :: (Lib.itoa pa ++ 32 :: Lib.itoa lo) := by
  unfold headB
  rw [ByteArray.data_append, ByteArray.data_append, ByteArray.data_append, ByteArray.data_append]
  simp [itB]
/-- A line is read as its instruction. -/
theorem ins_back {i : Ins} (h : isIns i = true) (h6 : I6 i.a) : insOf (lineB i).data.toList = i ∧ insRd (lineB i).data.toList = true ∧ (10 : UInt8) ∉ (lineB i).data.toList := by
  unfold isIns at h
  rw [Bool.and_eq_true, decide_eq_true_eq] at h
  obtain ⟨hop, ha⟩ := h
  have hk := opk_in hop
  have hk40 : opk i.op < 40 := opk_lt _
  have hk1 : 1 ≤ opk i.op := by rw [hk]; omega
  have hw : numOf (bs (wdL (opk i.op))) = opk i.op := wd_num_all ⟨opk i.op, hk40⟩ hk1
  have key : insOf (lineB i).data.toList = i := by
    rw [lineB_list]
    by_cases hn : numb (opk i.op) = true
    · rw [if_pos hn]
      obtain ⟨e1, e2, -⟩ := cut_at 32 (wdL (opk i.op)) (Lib.itoa i.a) (wd_no hk40 (by decide))
      unfold insOf
      rw [e1, e2, hw, rdN_itoa h6]
      have ho : ((opk i.op : Nat) : Int) = i.op := by rw [hk]; omega
      rw [ho]
    · rw [if_neg hn]
      obtain ⟨e1, e2, -⟩ := cut_none 32 (wdL (opk i.op)) (wd_no hk40 (by decide))
      have ha0 : i.a = 0 := by simpa [hn] using ha
      unfold insOf
      rw [e1, e2, hw]
      have : rdN [] = 0 := by unfold rdN Lib.parseIntB; rfl
      have ho : ((opk i.op : Nat) : Int) = i.op := by rw [hk]; omega
      rw [this, ho, ← ha0]
  refine ⟨key, ?_, ?_⟩
  · unfold insRd
    rw [key, bs_toList]
    have : isIns i = true := by
      unfold isIns
      rw [Bool.and_eq_true, decide_eq_true_eq]
      exact ⟨hop, ha⟩
    rw [this]
    simp
  · rw [lineB_list]
    split
    · intro hm
      rw [List.mem_append, List.mem_cons] at hm
      rcases hm with hm | hm | hm
      · exact wd_no hk40 (by decide) hm
      · exact absurd hm (by decide)
      · exact itoa_no (by decide) hm
    · exact wd_no hk40 (by decide)
theorem codeL_nil_iff {l : List Ins} : codeL l = [] ↔ l = [] := by
  constructor
  · intro h
    cases l with
    | nil => rfl
    | cons i l => simp [codeL, lineL] at h
  · rintro rfl; rfl
theorem rdC_back (tot : Nat) : ∀ (l : List Ins) (f k : Nat), (∀ i ∈ l, isIns i = true ∧ I6 i.a) → (codeL l).length ≤ f → k + l.length ≤ 2000 → rdC tot f k (codeL l) = .inr l
  | [], f, k, _, _, _ => by rw [codeL_nil_iff.2 rfl, rdC_end]
  | i :: l, f, k, h, hf, hk => by
    obtain ⟨h1, h2⟩ := h i (by simp)
    obtain ⟨e1, e2, e3⟩ := ins_back h1 h2
    have ec : codeL (i :: l) = (lineB i).data.toList ++ 10 :: codeL l := by
      simp [codeL, lineL]
    obtain ⟨c1, c2, c3⟩ := cut_at 10 (lineB i).data.toList (codeL l) e3
    have hlen : (codeL (i :: l)).length = (lineB i).data.toList.length + 1 + (codeL l).length := by rw [ec]; simp; omega
    cases f with
    | zero => omega
    | succ f =>
      rw [rdC, if_neg (fun e => by rw [e] at hlen; simp at hlen; omega), ec, c1, c2, c3, e2, if_neg (by simp at hk ⊢; omega), rdC_back tot l f (k + 1) (fun j hj => h j (by simp [hj])) (by omega) (by simp at hk; omega), e1]
theorem seen_no32 {nm : ByteArray} (h : nm.data.toList.all seen = true) : (32 : UInt8) ∉ nm.data.toList ∧ (10 : UInt8) ∉ nm.data.toList := by
  rw [List.all_eq_true] at h
  exact ⟨fun e => absurd (h _ e) (by decide), fun e => absurd (h _ e) (by decide)⟩
/-- A head is read as the routine without its code. -/
theorem head_back {r : Rt} (h : lstOk r = true) (h1 : I6 r.pa) (h2 : I6 r.lo) : headOf (headB r.name r.pa r.lo).data.toList = ⟨r.name, r.pa, r.lo, []⟩ ∧ headRd (headB r.name r.pa r.lo).data.toList = true ∧ (10 : UInt8) ∉ (headB r.name r.pa r.lo).data.toList := by
  have hs : r.name.data.toList.all seen = true := by
    unfold lstOk at h
    rw [Bool.and_eq_true] at h
    exact h.2
  obtain ⟨s32, s10⟩ := seen_no32 hs
  have key : headOf (headB r.name r.pa r.lo).data.toList = ⟨r.name, r.pa, r.lo, []⟩ := by
    rw [headB_list]
    obtain ⟨e1, e2, -⟩ := cut_at 32 r.name.data.toList (Lib.itoa r.pa ++ 32 :: Lib.itoa r.lo) s32
    obtain ⟨e3, e4, -⟩ := cut_at 32 (Lib.itoa r.pa) (Lib.itoa r.lo) (itoa_no (by decide))
    unfold headOf
    rw [e1, e2, e3, e4, rdN_itoa h1, rdN_itoa h2, bs_toList]
  refine ⟨key, ?_, ?_⟩
  · unfold headRd
    rw [key, bs_toList]
    have : lstOk ⟨r.name, r.pa, r.lo, []⟩ = true := by
      unfold lstOk rtOk at h ⊢
      simp only [Bool.and_eq_true, decide_eq_true_eq] at h ⊢
      exact ⟨⟨⟨h.1.1.1, by simp⟩, by simp⟩, h.2⟩
    rw [this]
    simp
  · rw [headB_list]
    intro hm
    rw [List.mem_append, List.mem_cons, List.mem_append, List.mem_cons] at hm
    rcases hm with hm | hm | hm | hm | hm
    · exact s10 hm
    · exact absurd hm (by decide)
    · exact itoa_no (by decide) hm
    · exact absurd hm (by decide)
    · exact itoa_no (by decide) hm
theorem lstOk_code {r : Rt} (h : lstOk r = true) : r.code.length ≤ 2000 ∧ ∀ i ∈ r.code, isIns i = true := by
  unfold lstOk rtOk at h
  simp only [Bool.and_eq_true, decide_eq_true_eq] at h
  exact ⟨h.1.1.2, fun i hi => List.all_eq_true.1 h.1.2 i hi⟩
/-- What is listed is read as the same routine. -/
theorem read_list {r : Rt} (h : lstOk r = true) (h1 : I6 r.pa) (h2 : I6 r.lo) (h3 : ∀ i ∈ r.code, I6 i.a) : readF (listL r) = .inr r := by
  obtain ⟨e1, e2, e3⟩ := head_back h h1 h2
  obtain ⟨l1, l2⟩ := lstOk_code h
  have el : listL r = (headB r.name r.pa r.lo).data.toList ++ 10 :: codeL r.code := by
    unfold listL headL
    rw [if_pos h]; simp
  obtain ⟨c1, c2, c3⟩ := cut_at 10 (headB r.name r.pa r.lo).data.toList (codeL r.code) e3
  unfold readF
  rw [el, c1, c2, c3, e2, e1, rdC_back _ r.code _ 0 (fun i hi => ⟨l2 i hi, h3 i hi⟩) (by simp; omega) (by omega)]
  simp [rdJ]
/-- What is read is listed as the same text. -/
theorem rdC_list (tot : Nat) : ∀ (f k : Nat) (rest : List UInt8) (l : List Ins), rest.length ≤ f → k ≤ 2000 → rdC tot f k rest = .inr l → codeL l = rest ∧ k + l.length ≤ 2000 ∧ ∀ i ∈ l, isIns i = true ∧ I6 i.a ∧ I6 i.op
  | 0, k, rest, l, hf, hk, h => by
    obtain rfl : rest = [] := List.length_eq_zero_iff.1 (by omega)
    rw [rdC] at h
    injection h with h
    subst h
    exact ⟨rfl, by simpa using hk, by simp⟩
  | f + 1, k, rest, l, hf, hk, h => by
    rw [rdC] at h
    by_cases h0 : rest = []
    · rw [if_pos h0] at h
      injection h with h
      subst h
      exact ⟨by rw [h0]; rfl, by simpa using hk, by simp⟩
    · rw [if_neg h0] at h
      by_cases hb : (!(hasC 10 rest) || !(insRd (bef 10 rest)) || k == 2000) = true
      · rw [if_pos hb] at h; cases h
      · rw [if_neg hb] at h
        simp only [Bool.or_eq_true, Bool.not_eq_true', beq_iff_eq, not_or, Bool.not_eq_false] at hb
        obtain ⟨⟨h1, h2⟩, h3⟩ := hb
        cases hr : rdC tot f (k + 1) (aft 10 rest) with
        | inl a => rw [hr] at h; cases h
        | inr l' =>
          rw [hr] at h
          injection h with h
          subst h
          have hlt := aft_lt 10 rest h0
          obtain ⟨e1, e2, e3⟩ := rdC_list tot f (k + 1) (aft 10 rest) l' (by omega) (by omega) hr
          unfold insRd at h2
          rw [Bool.and_eq_true, decide_eq_true_eq] at h2
          refine ⟨?_, by simp; omega, ?_⟩
          · have e4 : (lineB (insOf (bef 10 rest))).data.toList = bef 10 rest := by rw [h2.2, toList_bs]
            have : codeL (insOf (bef 10 rest) :: l') = (lineB (insOf (bef 10 rest))).data.toList ++ 10 :: codeL l' := by simp [codeL, lineL]
            rw [this, e4, e1, ← has_split 10 rest h1]
          · intro i hi
            rw [List.mem_cons] at hi
            rcases hi with rfl | hi
            · exact ⟨h2.1, rdN_i6 _, numOf_i6 _⟩
            · exact e3 i hi
theorem list_read {s : List UInt8} {r : Rt} (h : readF s = .inr r) : listL r = s ∧ I6 r.pa ∧ I6 r.lo ∧ (∀ i ∈ r.code, I6 i.op ∧ I6 i.a) ∧ lstOk r = true := by
  unfold readF at h
  by_cases hb : (hasC 10 s && headRd (bef 10 s)) = true
  · rw [if_pos hb] at h
    rw [Bool.and_eq_true] at hb
    obtain ⟨h1, h2⟩ := hb
    cases hr : rdC s.length s.length 0 (aft 10 s) with
    | inl a => rw [hr] at h; cases h
    | inr l =>
      rw [hr] at h
      simp only [rdJ, List.nil_append] at h
      injection h with h
      subst h
      obtain ⟨e1, e2, e3⟩ := rdC_list s.length s.length 0 (aft 10 s) l (aft_len 10 s) (by omega) hr
      unfold headRd at h2
      rw [Bool.and_eq_true, decide_eq_true_eq] at h2
      have hl : lstOk ⟨(headOf (bef 10 s)).name, (headOf (bef 10 s)).pa, (headOf (bef 10 s)).lo, l⟩ = true := by
        have h3 := h2.1
        unfold lstOk rtOk at h3 ⊢
        simp only [Bool.and_eq_true, decide_eq_true_eq] at h3 ⊢
        exact ⟨⟨⟨h3.1.1.1, by omega⟩, List.all_eq_true.2 (fun i hi => (e3 i hi).1)⟩, h3.2⟩
      refine ⟨?_, rdN_i6 _, rdN_i6 _, fun i hi => ⟨(e3 i hi).2.2, (e3 i hi).2.1⟩, hl⟩
      unfold listL headL
      rw [if_pos hl]
      dsimp only
      rw [h2.2, toList_bs, e1]
      have := has_split 10 s h1
      simp only [List.append_assoc, List.singleton_append]
      exact this.symm
  · rw [if_neg hb] at h; cases h
end Go.Proofs.YtpolajoephjdhaaGreatDoor
