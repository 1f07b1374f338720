import Derived.Test.YtpolajoephjdhaaGreatDoorCoQ
/-
  Lines, there and back.
-/
namespace Go.Proofs.YtpolajoephjdhaaGreatDoor
open Go.RowKit
set_option maxRecDepth 100000
theorem has_split (c : UInt8) : ∀ l : List UInt8, hasC c l = true → l = bef c l ++ c :: aft c l
  | [], h => by cases h
  | b :: l, h => by
    rw [hasC] at h
    by_cases hb : (b == c) = true
    · rw [bef, if_pos hb, aft, if_pos hb]
      have : b = c := by simpa using hb
      rw [this]; rfl
    · rw [if_neg hb] at h
      rw [bef, if_neg hb, aft, if_neg hb, List.cons_append, ← has_split c l h]
theorem cut_at (c : UInt8) : ∀ (a r : List UInt8), c ∉ a → bef c (a ++ c :: r) = a ∧ aft c (a ++ c :: r) = r ∧ hasC c (a ++ c :: r) = true
  | [], r, _ => by simp [bef, aft, hasC]
  | b :: a, r, h => by
    have hb : ¬ (b == c) = true := fun e => h (by have : b = c := by simpa using e
                                                  simp [this])
    obtain ⟨e1, e2, e3⟩ := cut_at c a r (fun e => h (by simp [e]))
    rw [List.cons_append, bef, if_neg hb, aft, if_neg hb, hasC, if_neg hb, e1, e2, e3]
    exact ⟨rfl, rfl, rfl⟩
theorem cut_none (c : UInt8) : ∀ (a : List UInt8), c ∉ a → bef c a = a ∧ aft c a = [] ∧ hasC c a = false
  | [], _ => by simp [bef, aft, hasC]
  | b :: a, h => by
    have hb : ¬ (b == c) = true := fun e => h (by have : b = c := by simpa using e
                                                  simp [this])
    obtain ⟨e1, e2, e3⟩ := cut_none c a (fun e => h (by simp [e]))
    rw [bef, if_neg hb, aft, if_neg hb, hasC, if_neg hb, e1, e2, e3]
    exact ⟨rfl, rfl, rfl⟩
/-! ### Numbers -/
def valD : List UInt8 → Nat → Nat
  | [], acc => acc
  | c :: r, acc => valD r (acc * 10 + (c.toNat - 48))
def Dig (l : List UInt8) : Prop := ∀ c ∈ l, 48 ≤ c.toNat ∧ c.toNat ≤ 57
theorem valD_snoc : ∀ (l : List UInt8) (c : UInt8) (acc : Nat), valD (l ++ [c]) acc = valD l acc * 10 + (c.toNat - 48)
  | [], c, acc => rfl
  | b :: l, c, acc => by rw [List.cons_append, valD, valD, valD_snoc l c]
theorem valD_ge : ∀ (l : List UInt8) (acc : Nat), acc ≤ valD l acc
  | [], acc => Nat.le_refl _
  | c :: r, acc => by
    have := valD_ge r (acc * 10 + (c.toNat - 48))
    rw [valD]; omega
theorem dig_nat (d : Nat) (h : d < 10) : (UInt8.ofNat (48 + d)).toNat = 48 + d := by
  rw [UInt8.toNat_ofNat']
  omega
theorem dec_spec : ∀ (n : Nat) (u : Nat), u ≤ n → Dig (Lib.decDigits u) ∧ valD (Lib.decDigits u) 0 = u ∧ Lib.decDigits u ≠ []
  | 0, u, h => by
    obtain rfl : u = 0 := by omega
    rw [Lib.decDigits]
    refine ⟨?_, rfl, by simp⟩
    intro c hc
    simp at hc
    subst hc
    decide
  | n + 1, u, h => by
    rw [Lib.decDigits]
    by_cases hu : u < 10
    · rw [dif_pos hu]
      refine ⟨?_, ?_, by simp⟩
      · intro c hc
        simp only [List.mem_singleton] at hc
        subst hc
        rw [dig_nat u hu]; omega
      · show valD [UInt8.ofNat (48 + u)] 0 = u
        rw [valD, valD, dig_nat u hu]; omega
    · rw [dif_neg hu]
      obtain ⟨h1, h2, h3⟩ := dec_spec n (u / 10) (by omega)
      refine ⟨?_, ?_, by simp⟩
      · intro c hc
        rw [List.mem_append] at hc
        rcases hc with hc | hc
        · exact h1 c hc
        · simp only [List.mem_singleton] at hc
          subst hc
          rw [dig_nat _ (Nat.mod_lt _ (by omega))]; omega
      · rw [valD_snoc, h2, dig_nat _ (Nat.mod_lt _ (by omega))]; omega
theorem uintM_dig (l : List UInt8) : ∀ (acc : Nat), Dig l → valD l acc ≤ 18446744073709551615 → Lib.parseUintM 18446744073709551615 acc l = .ok (valD l acc) := by
  induction l with
  | nil => intro acc _ _; rw [valD, Lib.parseUintM]
  | cons c r ih =>
    intro acc hd hv
    have hc := hd c (by simp)
    have hr : Dig r := fun x hx => hd x (by simp [hx])
    rw [valD] at hv ⊢
    have hg := valD_ge r (acc * 10 + (c.toNat - 48))
    rw [Lib.parseUintM, if_pos hc, if_neg (by omega), if_neg (by omega)]
    exact ih _ hr hv
theorem uintB_dec (u : Nat) (h : u ≤ 18446744073709551615) : Lib.parseUintB 64 (Lib.decDigits u) = .ok u := by
  obtain ⟨h1, h2, h3⟩ := dec_spec u u (Nat.le_refl _)
  unfold Lib.parseUintB
  rw [if_neg (by simpa using h3)]
  have := uintM_dig (Lib.decDigits u) 0 h1 (by rw [h2]; exact h)
  rw [h2] at this
  exact this
theorem rdN_itoa {n : Int} (h : I6 n) : rdN (Lib.itoa n) = n := by
  unfold rdN Lib.itoa I6 at *
  by_cases hn : n < 0
  · rw [if_pos hn]
    have hu := uintB_dec n.natAbs (by omega)
    have : Lib.parseIntB 64 (45 :: Lib.decDigits n.natAbs) = .ok n := by
      unfold Lib.parseIntB
      dsimp only
      rw [if_pos (.inr rfl), hu]
      dsimp only
      rw [if_neg (by intro e; exact e.1 rfl), if_neg (by intro e; have := e.2; omega)]
      congr 1
      rw [if_pos (show UInt8.toNat 45 = 45 from rfl)]
      omega
    rw [this]
  · rw [if_neg hn]
    have hu := uintB_dec n.toNat (by omega)
    obtain ⟨h1, -, h3⟩ := dec_spec n.toNat n.toNat (Nat.le_refl _)
    have : Lib.parseIntB 64 (Lib.decDigits n.toNat) = .ok n := by
      cases hd : Lib.decDigits n.toNat with
      | nil => exact absurd hd h3
      | cons c r =>
        have hc := h1 c (by rw [hd]; simp)
        rw [hd] at hu
        unfold Lib.parseIntB
        dsimp only
        rw [if_neg (by omega), hu]
        dsimp only
        rw [if_neg (by intro e; have := e.2; omega), if_neg (by intro e; have := e.1; omega)]
        congr 1
        rw [if_neg (by omega)]
        omega
    rw [this]
theorem itoa_no {n : Int} {c : UInt8} (hc : c.toNat ≠ 45 ∧ ¬ (48 ≤ c.toNat ∧ c.toNat ≤ 57)) : c ∉ Lib.itoa n := by
  unfold Lib.itoa
  have hd := fun u => (dec_spec u u (Nat.le_refl _)).1
  split
  · intro h
    rw [List.mem_cons] at h
    rcases h with h | h
    · subst h; exact hc.1 rfl
    · exact hc.2 (hd _ c h)
  · intro h
    exact hc.2 (hd _ c h)
end Go.Proofs.YtpolajoephjdhaaGreatDoor

/-
  Routines, there and back.
-/
namespace Go.Proofs.YtpolajoephjdhaaGreatDoor
open Go.RowKit
set_option maxRecDepth 100000
theorem wd_num_all : ∀ k : Fin 40, 1 ≤ k.val → numOf (wd k.val) = k.val := by decide +kernel
theorem wd_let_all : ∀ k : Fin 40, (wdL k.val).all (fun c => decide (97 ≤ c.toNat ∧ c.toNat ≤ 122)) = true := by decide +kernel
theorem wd_no {k : Nat} (hk : k < 40) {c : UInt8} (hc : c.toNat < 97) : c ∉ wdL k := fun h => by
  have := List.all_eq_true.1 (wd_let_all ⟨k, hk⟩) c h
  simp at this
  omega
theorem lineB_list (i : Ins) : (lineB i).data.toList = if numb (opk i.op) then wdL (opk i.op) ++ 32 :: Lib.itoa i.a else wdL (opk i.op) := by
  unfold lineB
  split
  · rw [ByteArray.data_append, ByteArray.data_append, Array.toList_append, Array.toList_append]
    simp [wd, itB]
  · rfl
theorem headB_list (nm : ByteArray) (pa lo : Int) : (headB nm pa lo).data.toList = nm.data.toList ++ 32 :: (Lib.itoa pa ++ 32 :: Lib.itoa lo) := by
  unfold headB
  rw [ByteArray.data_append, ByteArray.data_append, ByteArray.data_append, ByteArray.data_append]
  simp [itB]
/-- A line is read as its instruction. -/
theorem ins_back {i : Ins} (h : isIns i = true) (h6 : I6 i.a) : insOf (lineB i).data.toList = i ∧ insRd (lineB i).data.toList = true ∧ (10 : UInt8) ∉ (lineB i).data.toList := by
  unfold isIns at h
  rw [Bool.and_eq_true, decide_eq_true_eq] at h
  obtain ⟨hop, ha⟩ := h
  have hk := opk_in hop
  have hk40 : opk i.op < 40 := opk_lt _
  have hk1 : 1 ≤ opk i.op := by rw [hk]; omega
  have hw : numOf (bs (wdL (opk i.op))) = opk i.op := wd_num_all ⟨opk i.op, hk40⟩ hk1
  have key : insOf (lineB i).data.toList = i := by
    rw [lineB_list]
    by_cases hn : numb (opk i.op) = true
    · rw [if_pos hn]
      obtain ⟨e1, e2, -⟩ := cut_at 32 (wdL (opk i.op)) (Lib.itoa i.a) (wd_no hk40 (by decide))
      unfold insOf
      rw [e1, e2, hw, rdN_itoa h6]
      have ho : ((opk i.op : Nat) : Int) = i.op := by rw [hk]; omega
      rw [ho]
    · rw [if_neg hn]
      obtain ⟨e1, e2, -⟩ := cut_none 32 (wdL (opk i.op)) (wd_no hk40 (by decide))
      have ha0 : i.a = 0 := by simpa [hn] using ha
      unfold insOf
      rw [e1, e2, hw]
      have : rdN [] = 0 := by unfold rdN Lib.parseIntB; rfl
      have ho : ((opk i.op : Nat) : Int) = i.op := by rw [hk]; omega
      rw [this, ho, ← ha0]
  refine ⟨key, ?_, ?_⟩
  · unfold insRd
    rw [key, bs_toList]
    have : isIns i = true := by
      unfold isIns
      rw [Bool.and_eq_true, decide_eq_true_eq]
      exact ⟨hop, ha⟩
    rw [this]
    simp
  · rw [lineB_list]
    split
    · intro hm
      rw [List.mem_append, List.mem_cons] at hm
      rcases hm with hm | hm | hm
      · exact wd_no hk40 (by decide) hm
      · exact absurd hm (by decide)
      · exact itoa_no (by decide) hm
    · exact wd_no hk40 (by decide)
theorem codeL_nil_iff {l : List Ins} : codeL l = [] ↔ l = [] := by
  constructor
  · intro h
    cases l with
    | nil => rfl
    | cons i l => simp [codeL, lineL] at h
  · rintro rfl; rfl
theorem rdC_back (tot : Nat) : ∀ (l : List Ins) (f k : Nat), (∀ i ∈ l, isIns i = true ∧ I6 i.a) → (codeL l).length ≤ f → k + l.length ≤ 2000 → rdC tot f k (codeL l) = .inr l
  | [], f, k, _, _, _ => by rw [codeL_nil_iff.2 rfl, rdC_end]
  | i :: l, f, k, h, hf, hk => by
    obtain ⟨h1, h2⟩ := h i (by simp)
    obtain ⟨e1, e2, e3⟩ := ins_back h1 h2
    have ec : codeL (i :: l) = (lineB i).data.toList ++ 10 :: codeL l := by
      simp [codeL, lineL]
    obtain ⟨c1, c2, c3⟩ := cut_at 10 (lineB i).data.toList (codeL l) e3
    have hlen : (codeL (i :: l)).length = (lineB i).data.toList.length + 1 + (codeL l).length := by rw [ec]; simp; omega
    cases f with
    | zero => omega
    | succ f =>
      rw [rdC, if_neg (fun e => by rw [e] at hlen; simp at hlen; omega), ec, c1, c2, c3, e2, if_neg (by simp at hk ⊢; omega), rdC_back tot l f (k + 1) (fun j hj => h j (by simp [hj])) (by omega) (by simp at hk; omega), e1]
theorem seen_no32 {nm : ByteArray} (h : nm.data.toList.all seen = true) : (32 : UInt8) ∉ nm.data.toList ∧ (10 : UInt8) ∉ nm.data.toList := by
  rw [List.all_eq_true] at h
  exact ⟨fun e => absurd (h _ e) (by decide), fun e => absurd (h _ e) (by decide)⟩
/-- A head is read as the routine without its code. -/
theorem head_back {r : Rt} (h : lstOk r = true) (h1 : I6 r.pa) (h2 : I6 r.lo) : headOf (headB r.name r.pa r.lo).data.toList = ⟨r.name, r.pa, r.lo, []⟩ ∧ headRd (headB r.name r.pa r.lo).data.toList = true ∧ (10 : UInt8) ∉ (headB r.name r.pa r.lo).data.toList := by
  have hs : r.name.data.toList.all seen = true := by
    unfold lstOk at h
    rw [Bool.and_eq_true] at h
    exact h.2
  obtain ⟨s32, s10⟩ := seen_no32 hs
  have key : headOf (headB r.name r.pa r.lo).data.toList = ⟨r.name, r.pa, r.lo, []⟩ := by
    rw [headB_list]
    obtain ⟨e1, e2, -⟩ := cut_at 32 r.name.data.toList (Lib.itoa r.pa ++ 32 :: Lib.itoa r.lo) s32
    obtain ⟨e3, e4, -⟩ := cut_at 32 (Lib.itoa r.pa) (Lib.itoa r.lo) (itoa_no (by decide))
    unfold headOf
    rw [e1, e2, e3, e4, rdN_itoa h1, rdN_itoa h2, bs_toList]
  refine ⟨key, ?_, ?_⟩
  · unfold headRd
    rw [key, bs_toList]
    have : lstOk ⟨r.name, r.pa, r.lo, []⟩ = true := by
      unfold lstOk rtOk at h ⊢
      simp only [Bool.and_eq_true, decide_eq_true_eq] at h ⊢
      exact ⟨⟨⟨h.1.1.1, by simp⟩, by simp⟩, h.2⟩
    rw [this]
    simp
  · rw [headB_list]
    intro hm
    rw [List.mem_append, List.mem_cons, List.mem_append, List.mem_cons] at hm
    rcases hm with hm | hm | hm | hm | hm
    · exact s10 hm
    · exact absurd hm (by decide)
    · exact itoa_no (by decide) hm
    · exact absurd hm (by decide)
    · exact itoa_no (by decide) hm
theorem lstOk_code {r : Rt} (h : lstOk r = true) : r.code.length ≤ 2000 ∧ ∀ i ∈ r.code, isIns i = true := by
  unfold lstOk rtOk at h
  simp only [Bool.and_eq_true, decide_eq_true_eq] at h
  exact ⟨h.1.1.2, fun i hi => List.all_eq_true.1 h.1.2 i hi⟩
/-- What is listed is read as the same routine. -/
theorem read_list {r : Rt} (h : lstOk r = true) (h1 : I6 r.pa) (h2 : I6 r.lo) (h3 : ∀ i ∈ r.code, I6 i.a) : readF (listL r) = .inr r := by
  obtain ⟨e1, e2, e3⟩ := head_back h h1 h2
  obtain ⟨l1, l2⟩ := lstOk_code h
  have el : listL r = (headB r.name r.pa r.lo).data.toList ++ 10 :: codeL r.code := by
    unfold listL headL
    rw [if_pos h]; simp
  obtain ⟨c1, c2, c3⟩ := cut_at 10 (headB r.name r.pa r.lo).data.toList (codeL r.code) e3
  unfold readF
  rw [el, c1, c2, c3, e2, e1, rdC_back _ r.code _ 0 (fun i hi => ⟨l2 i hi, h3 i hi⟩) (by simp; omega) (by omega)]
  simp [rdJ]
/-- What is read is listed as the same text. -/
theorem rdC_list (tot : Nat) : ∀ (f k : Nat) (rest : List UInt8) (l : List Ins), rest.length ≤ f → k ≤ 2000 → rdC tot f k rest = .inr l → codeL l = rest ∧ k + l.length ≤ 2000 ∧ ∀ i ∈ l, isIns i = true ∧ I6 i.a ∧ I6 i.op
  | 0, k, rest, l, hf, hk, h => by
    obtain rfl : rest = [] := List.length_eq_zero_iff.1 (by omega)
    rw [rdC] at h
    injection h with h
    subst h
    exact ⟨rfl, by simpa using hk, by simp⟩
  | f + 1, k, rest, l, hf, hk, h => by
    rw [rdC] at h
    by_cases h0 : rest = []
    · rw [if_pos h0] at h
      injection h with h
      subst h
      exact ⟨by rw [h0]; rfl, by simpa using hk, by simp⟩
    · rw [if_neg h0] at h
      by_cases hb : (!(hasC 10 rest) || !(insRd (bef 10 rest)) || k == 2000) = true
      · rw [if_pos hb] at h; cases h
      · rw [if_neg hb] at h
        simp only [Bool.or_eq_true, Bool.not_eq_true', beq_iff_eq, not_or, Bool.not_eq_false] at hb
        obtain ⟨⟨h1, h2⟩, h3⟩ := hb
        cases hr : rdC tot f (k + 1) (aft 10 rest) with
        | inl a => rw [hr] at h; cases h
        | inr l' =>
          rw [hr] at h
          injection h with h
          subst h
          have hlt := aft_lt 10 rest h0
          obtain ⟨e1, e2, e3⟩ := rdC_list tot f (k + 1) (aft 10 rest) l' (by omega) (by omega) hr
          unfold insRd at h2
          rw [Bool.and_eq_true, decide_eq_true_eq] at h2
          refine ⟨?_, by simp; omega, ?_⟩
          · have e4 : (lineB (insOf (bef 10 rest))).data.toList = bef 10 rest := by rw [h2.2, toList_bs]
            have : codeL (insOf (bef 10 rest) :: l') = (lineB (insOf (bef 10 rest))).data.toList ++ 10 :: codeL l' := by simp [codeL, lineL]
            rw [this, e4, e1, ← has_split 10 rest h1]
          · intro i hi
            rw [List.mem_cons] at hi
            rcases hi with rfl | hi
            · exact ⟨h2.1, rdN_i6 _, numOf_i6 _⟩
            · exact e3 i hi
theorem list_read {s : List UInt8} {r : Rt} (h : readF s = .inr r) : listL r = s ∧ I6 r.pa ∧ I6 r.lo ∧ (∀ i ∈ r.code, I6 i.op ∧ I6 i.a) ∧ lstOk r = true := by
  unfold readF at h
  by_cases hb : (hasC 10 s && headRd (bef 10 s)) = true
  · rw [if_pos hb] at h
    rw [Bool.and_eq_true] at hb
    obtain ⟨h1, h2⟩ := hb
    cases hr : rdC s.length s.length 0 (aft 10 s) with
    | inl a => rw [hr] at h; cases h
    | inr l =>
      rw [hr] at h
      simp only [rdJ, List.nil_append] at h
      injection h with h
      subst h
      obtain ⟨e1, e2, e3⟩ := rdC_list s.length s.length 0 (aft 10 s) l (aft_len 10 s) (by omega) hr
      unfold headRd at h2
      rw [Bool.and_eq_true, decide_eq_true_eq] at h2
      have hl : lstOk ⟨(headOf (bef 10 s)).name, (headOf (bef 10 s)).pa, (headOf (bef 10 s)).lo, l⟩ = true := by
        have h3 := h2.1
        unfold lstOk rtOk at h3 ⊢
        simp only [Bool.and_eq_true, decide_eq_true_eq] at h3 ⊢
        exact ⟨⟨⟨h3.1.1.1, by omega⟩, List.all_eq_true.2 (fun i hi => (e3 i hi).1)⟩, h3.2⟩
      refine ⟨?_, rdN_i6 _, rdN_i6 _, fun i hi => ⟨(e3 i hi).2.2, (e3 i hi).2.1⟩, hl⟩
      unfold listL headL
      rw [if_pos hl]
      dsimp only
      rw [h2.2, toList_bs, e1]
      have := has_split 10 s h1
      simp only [List.append_assoc, List.singleton_append]
      exact this.symm
  · rw [if_neg hb] at h; cases h
end Go.Proofs.YtpolajoephjdhaaGreatDoor
