import Derived.Test.YtpolajoephjdhaaGreatDoorDeI
/-
  Numbers and texts, there and back, as plain functions.
-/
namespace Go.Proofs.YtpolajoephjdhaaGreatDoor
open Go.RowKit
theorem byte_small {y : Nat} (h : y < 256) : (y.toUInt8).toNat = y := by simp [Nat.toUInt8, UInt8.toNat_ofNat']; omega
theorem getFrom_put : ∀ (f y k acc : Nat) (b : List UInt8), y ≤ f → y * 2 ^ (7 * k) < 18446744073709551616 → k < 10 → (0 < k → 0 < y) → Dec.getFrom k acc (Lib.uvarint y ++ b) = (acc + y * 2 ^ (7 * k), k + (Lib.uvarint y).length)
  | f, y, k, acc, b, hf, hy, hk, hpos => by
    by_cases hs : y < 128
    · rw [Lib.uvarint_small hs]
      have e := byte_small (show y < 256 by omega)
      have h9 : k = 9 → y ≤ 1 := by
        rintro rfl
        have : 2 ^ (7 * 9) = 9223372036854775808 := by decide
        omega
      show Dec.getFrom k acc (y.toUInt8 :: b) = _
      rw [Dec.getFrom_last hk (by omega) (by omega), e]
      rfl
    · have hb : (y % 128 + 128).toUInt8.toNat = y % 128 + 128 := byte_small (by omega)
      have hpow : 2 ^ (7 * (k + 1)) = 128 * 2 ^ (7 * k) := by rw [show 7 * (k + 1) = 7 * k + 7 by omega, Nat.pow_add, Nat.mul_comm]
      have hk8 : k < 9 := by
        refine Classical.byContradiction fun h => ?_
        have e : k = 9 := by omega
        subst e
        have : 2 ^ (7 * 9) = 9223372036854775808 := by decide
        omega
      have hm : y * 2 ^ (7 * k) = y % 128 * 2 ^ (7 * k) + y / 128 * 2 ^ (7 * (k + 1)) := by
        rw [hpow, ← Nat.mul_assoc, ← Nat.add_mul]
        congr 1
        omega
      rw [Lib.uvarint_big (by omega), List.cons_append, Dec.getFrom_more hk (by omega)]
      cases f with
      | zero => omega
      | succ f =>
        rw [getFrom_put f (y / 128) (k + 1) _ b (by omega) (by omega) (by omega) (by omega), hb]
        simp only [List.length_cons, Prod.mk.injEq]
        constructor
        · rw [show (y % 128 + 128) % 128 = y % 128 by omega, hm]
          omega
        · omega
theorem getN_put {n : Nat} (h : n < 18446744073709551616) (b : List UInt8) : Dec.getN (Lib.uvarint n ++ b) = (n, (Lib.uvarint n).length) := by
  have := getFrom_put n n 0 0 b (Nat.le_refl _) (by simpa using h) (by omega) (by omega)
  simpa [Dec.getN] using this
theorem getFrom_back : ∀ (b : List UInt8) (k acc : Nat), k ≤ 10 → (Dec.getFrom k acc b).2 ≠ 0 → ∃ y, (Dec.getFrom k acc b).1 = acc + y * 2 ^ (7 * k) ∧ (Dec.getFrom k acc b).2 = k + (Lib.uvarint y).length ∧ b.take (Lib.uvarint y).length = Lib.uvarint y ∧ (0 < k → 0 < y)
  | [], k, acc, _, h => by rw [Dec.getFrom_nil] at h; simp at h
  | c :: b, k, acc, hk, h => by
    by_cases h10 : 10 ≤ k
    · rw [Dec.getFrom_ten k acc _ h10] at h; simp at h
    by_cases hc : 128 ≤ c.toNat
    · rw [Dec.getFrom_more (by omega) hc] at h ⊢
      obtain ⟨y, h1, h2, h3, h4⟩ := getFrom_back b (k + 1) _ (by omega) h
      have hy := h4 (by omega)
      have hlt := c.toNat_lt
      have hpow : 2 ^ (7 * (k + 1)) = 128 * 2 ^ (7 * k) := by rw [show 7 * (k + 1) = 7 * k + 7 by omega, Nat.pow_add, Nat.mul_comm]
      have e1 : (c.toNat % 128 + 128 * y) / 128 = y := by omega
      have e2 : (c.toNat % 128 + 128 * y) % 128 + 128 = c.toNat := by omega
      have e3 : c.toNat.toUInt8 = c := by simp [Nat.toUInt8]
      have eu : Lib.uvarint (c.toNat % 128 + 128 * y) = c :: Lib.uvarint y := by rw [Lib.uvarint_big (by omega), e1, e2, e3]
      refine ⟨c.toNat % 128 + 128 * y, ?_, ?_, ?_, by omega⟩
      · rw [h1, hpow, Nat.add_mul, Nat.mul_assoc 128, ← Nat.mul_assoc y, Nat.mul_comm y 128, Nat.mul_assoc 128]
        omega
      · rw [h2, eu, List.length_cons]
        omega
      · rw [eu, List.length_cons, List.take_succ_cons, h3]
    · by_cases hbad : (0 < k ∧ c.toNat = 0) ∨ (k = 9 ∧ 1 < c.toNat)
      · rw [Dec.getFrom_bad (by omega) (by omega) hbad] at h; simp at h
      · rw [Dec.getFrom_last (by omega) (by omega) hbad] at h ⊢
        have e3 : c.toNat.toUInt8 = c := by simp [Nat.toUInt8]
        have eu : Lib.uvarint c.toNat = [c] := by rw [Lib.uvarint_small (by omega), e3]
        exact ⟨c.toNat, rfl, by rw [eu]; rfl, by rw [eu]; rfl, by omega⟩
theorem getN_back {b : List UInt8} {n s : Nat} (h : Dec.getN b = (n, s)) (hs : s ≠ 0) : b.take s = Lib.uvarint n ∧ s = (Lib.uvarint n).length := by
  have h0 : (Dec.getFrom 0 0 b).2 ≠ 0 := by show (Dec.getN b).2 ≠ 0; rw [h]; exact hs
  obtain ⟨y, h1, h2, h3, _⟩ := getFrom_back b 0 0 (by omega) h0
  have h1' : (Dec.getN b).1 = 0 + y * 2 ^ (7 * 0) := h1
  have h2' : (Dec.getN b).2 = 0 + (Lib.uvarint y).length := h2
  rw [h] at h1' h2'
  simp at h1' h2'
  subst h1'
  exact ⟨by rw [h2']; exact h3, h2'⟩
/-- The bytes begin with the number. -/
theorem getN_split {b : List UInt8} {n s : Nat} (h : Dec.getN b = (n, s)) (hs : s ≠ 0) : b = Lib.uvarint n ++ b.drop s := by
  rw [← (getN_back h hs).1, List.take_append_drop]
theorem text_back (s : ByteArray) (b : List UInt8) (h : s.size < 18446744073709551616) : textN (Lib.uvarint s.size ++ s.data.toList ++ b) = (s.data.toList, (Lib.uvarint s.size).length + s.size) := by
  have hl : s.data.toList.length = s.size := by simp
  have p1 := Lib.uvarint_pos s.size
  unfold textN
  rw [List.append_assoc, getN_put h]
  simp only
  rw [if_neg (by simp only [List.length_append]; omega), List.drop_left, List.take_left' hl]
theorem text_back' (b : List UInt8) : (textN b).2 ≠ 0 → Lib.uvarint (textN b).1.length ++ (textN b).1 = b.take (textN b).2 := by
  have hle := Dec.getN_le b
  unfold textN
  split
  · intro h; exact absurd rfl h
  · rename_i hb
    intro _
    have hg := getN_back (b := b) (n := (Dec.getN b).1) (s := (Dec.getN b).2) rfl (fun e => hb (.inl e))
    simp only
    rw [List.take_add, hg.1, List.length_take, List.length_drop, show min (Dec.getN b).1 (b.length - (Dec.getN b).2) = (Dec.getN b).1 by omega]
end Go.Proofs.YtpolajoephjdhaaGreatDoor

/-
  What is written is read as it was, reader by reader.
-/
namespace Go.Proofs.YtpolajoephjdhaaGreatDoor
open Go.RowKit
set_option maxRecDepth 100000
/-- A reader at the head of what is left. -/
def St (b : List UInt8) (s : Rs) (rest : List UInt8) : Prop := s.bad = false ∧ b.drop s.at' = rest
theorem pass_fwd {b : List UInt8} {s : Rs} {L rest : List UInt8} (h : St b s (L ++ rest)) (hL : L.length ≠ 0) : passR s L.length true = ⟨s.at' + L.length, s.left, false⟩ ∧ St b ⟨s.at' + L.length, s.left, false⟩ rest := by
  refine ⟨?_, rfl, ?_⟩
  · unfold passR
    rw [if_neg (by simp [h.1]; exact fun e => hL (by rw [e]; rfl))]
  · show b.drop (s.at' + L.length) = rest
    rw [← List.drop_drop, h.2, List.drop_left]
theorem uv_ne (n : Nat) : (uv n).length ≠ 0 := by have := Lib.uvarint_pos n; show (Lib.uvarint n).length ≠ 0; omega
theorem num_fwd {b : List UInt8} {s : Rs} {n least most : Nat} {rest : List UInt8} (h : St b s (uv n ++ rest)) (h1 : least ≤ n) (h2 : n ≤ most) (hn : n < 18446744073709551616) :
    numV b least most s = n ∧ St b (numR b least most s) rest ∧ (numR b least most s).left = s.left := by
  have g := getN_put hn rest
  have p := pass_fwd h (uv_ne n)
  have e : numR b least most s = ⟨s.at' + (uv n).length, s.left, false⟩ := by
    unfold numR
    rw [h.2, g]
    simp only [h1, h2, and_self, decide_true]
    exact p.1
  refine ⟨?_, by rw [e]; exact p.2, by rw [e]⟩
  unfold numV
  rw [e, h.2, g]
  rfl
theorem sgn_fwd {b : List UInt8} {s : Rs} {a : Int} {rest : List UInt8} (h : St b s (uv (Lib.zigzag a) ++ rest)) (ha : I6 a) :
    sgnV b s = a ∧ St b (sgnR b s) rest ∧ (sgnR b s).left = s.left := by
  have g := getN_put (Lib.zigzag_lt ha.1 ha.2) rest
  have p := pass_fwd h (uv_ne _)
  have e : sgnR b s = ⟨s.at' + (uv (Lib.zigzag a)).length, s.left, false⟩ := by
    unfold sgnR
    rw [h.2, g]
    exact p.1
  refine ⟨?_, by rw [e]; exact p.2, by rw [e]⟩
  unfold sgnV
  rw [e, h.2, g]
  exact Dec.unzig_zigzag a
theorem nm_fwd {b : List UInt8} {s : Rs} {nm : ByteArray} {rest : List UInt8} (h : St b s (uv nm.size ++ nm.data.toList ++ rest)) (h1 : 1 ≤ nm.size) (h2 : nm.size ≤ 16) :
    nmV b s = nm.data.toList ∧ St b (nmR b s) rest ∧ (nmR b s).left = s.left := by
  have hl : nm.data.toList.length = nm.size := by simp
  have u1 : (uv nm.size).length = 1 := by rw [show uv nm.size = _ from Lib.uvarint_small (by omega)]; rfl
  have hw : (b.take (s.at' + 17)).drop s.at' = uv nm.size ++ nm.data.toList ++ rest.take (16 - nm.size) := by
    rw [List.drop_take, h.2, show s.at' + 17 - s.at' = 17 by omega, List.take_append, List.take_of_length_le (by rw [List.length_append]; omega)]
    congr 2
    rw [List.length_append]
    omega
  have g := text_back nm (rest.take (16 - nm.size)) (by omega)
  have ht : nmT b s = (nm.data.toList, (uv nm.size).length + nm.size) := by
    unfold nmT
    rw [hw]
    exact g
  have hll : (uv nm.size ++ nm.data.toList).length = (uv nm.size).length + nm.size := by rw [List.length_append, hl]
  have p := pass_fwd (L := uv nm.size ++ nm.data.toList) h (by rw [hll]; omega)
  have hne : nm.data.toList ≠ [] := fun e => by rw [e] at hl; simp at hl; omega
  have e : nmR b s = ⟨s.at' + (uv nm.size ++ nm.data.toList).length, s.left, false⟩ := by
    unfold nmR
    rw [ht]
    simp only [hne, ne_eq, not_false_eq_true, decide_true]
    rw [← hll]
    exact p.1
  refine ⟨?_, by rw [e]; exact p.2, by rw [e]⟩
  unfold nmV
  rw [e, ht]
  rfl
theorem ins_fwd {b : List UInt8} {s : Rs} {i : Ins} {rest : List UInt8} (h : St b s (insBy i ++ rest)) (hi : isIns i = true) (h6 : I6 i.a) :
    insVv b s = i ∧ St b (insR b s) rest ∧ (insR b s).left = s.left := by
  unfold isIns at hi
  simp only [Bool.and_eq_true, decide_eq_true_eq, Bool.or_eq_true, beq_iff_eq] at hi
  obtain ⟨⟨o1, o2⟩, o3⟩ := hi
  unfold insBy at h
  rw [List.append_assoc] at h
  obtain ⟨n1, n2, n3⟩ := num_fwd (least := 1) (most := 39) h (by omega) (by omega) (by omega)
  have eo : ((i.op.toNat : Nat) : Int) = i.op := by omega
  have en : insNm b s = numb (opk i.op) := by unfold insNm; rw [n1, eo]
  cases hb : numb (opk i.op) with
  | true =>
    rw [hb] at n2 en
    obtain ⟨m1, m2, m3⟩ := sgn_fwd n2 h6
    refine ⟨?_, ?_, ?_⟩
    · unfold insVv
      rw [en, n1, eo, if_pos rfl, m1]
    · unfold insR
      rw [en, if_pos rfl]
      exact m2
    · unfold insR
      rw [en, if_pos rfl, m3, n3]
  | false =>
    rw [hb] at n2 en o3
    have ha : i.a = 0 := by simpa using o3
    refine ⟨?_, ?_, ?_⟩
    · unfold insVv
      rw [en, n1, eo, if_neg (by simp)]
      cases i
      simp_all
    · unfold insR
      rw [en, if_neg (by simp)]
      exact n2
    · unfold insR
      rw [en, if_neg (by simp), n3]
theorem code_fwd {b : List UInt8} : ∀ {l : List Ins} {s : Rs} {rest : List UInt8}, St b s (l.flatMap insBy ++ rest) → l.all isIns = true → (∀ i ∈ l, I6 i.a) → codeVv b l.length s = l ∧ St b (codeG b l.length s) rest ∧ (codeG b l.length s).left = s.left
  | [], s, rest, h, _, _ => ⟨rfl, h, rfl⟩
  | i :: l, s, rest, h, ha, h6 => by
    rw [List.flatMap_cons, List.append_assoc] at h
    rw [List.all_cons, Bool.and_eq_true] at ha
    obtain ⟨n1, n2, n3⟩ := ins_fwd h ha.1 (h6 i (by simp))
    obtain ⟨m1, m2, m3⟩ := code_fwd n2 ha.2 (fun j hj => h6 j (by simp [hj]))
    refine ⟨?_, m2, m3.trans n3⟩
    show insVv b s :: codeVv b l.length (insR b s) = _
    rw [n1, m1]
end Go.Proofs.YtpolajoephjdhaaGreatDoor

/-
  What is written is read as it was: sets, routines, systems, programs.
-/
namespace Go.Proofs.YtpolajoephjdhaaGreatDoor
open Go.RowKit
set_option maxRecDepth 100000
theorem setL_fwd {b : List UInt8} : ∀ {l : List Int} {last : Nat} {s : Rs} {rest : List UInt8}, St b s ((l.flatMap fun k => uv k.toNat) ++ rest) → setFrom (last : Int) l = true → setL b l.length last s = l ∧ St b (setG b l.length last s) rest ∧ (setG b l.length last s).left = s.left
  | [], last, s, rest, h, _ => ⟨rfl, h, rfl⟩
  | k :: l, last, s, rest, h, ha => by
    rw [List.flatMap_cons, List.append_assoc] at h
    simp only [setFrom, Bool.and_eq_true, decide_eq_true_eq] at ha
    obtain ⟨⟨a1, a2⟩, a3⟩ := ha
    obtain ⟨n1, n2, n3⟩ := num_fwd (least := last + 1) (most := 12) h (by omega) (by omega) (by omega)
    have ek : ((k.toNat : Nat) : Int) = k := by omega
    obtain ⟨m1, m2, m3⟩ := setL_fwd (last := k.toNat) n2 (by rw [ek]; exact a3)
    refine ⟨?_, ?_, ?_⟩
    · show (numV b (last + 1) 12 s : Int) :: setL b l.length (numV b (last + 1) 12 s) (numR b (last + 1) 12 s) = _
      rw [n1, m1, ek]
    · show St b (setG b l.length (numV b (last + 1) 12 s) (numR b (last + 1) 12 s)) rest
      rw [n1]
      exact m2
    · show (setG b l.length (numV b (last + 1) 12 s) (numR b (last + 1) 12 s)).left = s.left
      rw [n1, m3, n3]
theorem setFrom_len : ∀ {l : List Int} {last : Int}, setFrom last l = true → last ≤ 12 → (l.length : Int) ≤ 12 - last
  | [], last, _, h => by simp; omega
  | k :: l, last, h, h2 => by
    simp only [setFrom, Bool.and_eq_true, decide_eq_true_eq] at h
    have := setFrom_len h.2 h.1.2
    simp only [List.length_cons]
    omega
theorem set_fwd {b : List UInt8} {l : List Int} {s : Rs} {rest : List UInt8} (h : St b s (setBy l ++ rest)) (ho : setOk l = true) : setV b s = l ∧ St b (setR b s) rest ∧ (setR b s).left = s.left := by
  have hl := setFrom_len (last := 0) ho (by omega)
  unfold setBy at h
  rw [List.append_assoc] at h
  obtain ⟨n1, n2, n3⟩ := num_fwd (least := 0) (most := 12) h (by omega) (by omega) (by omega)
  obtain ⟨m1, m2, m3⟩ := setL_fwd (last := 0) n2 ho
  unfold setV setR
  rw [n1]
  exact ⟨m1, m2, m3.trans n3⟩
theorem rtOk_parts {r : Rt} (h : rtOk r = true) : (1 ≤ r.name.size ∧ r.name.size ≤ 16) ∧ (0 ≤ r.pa ∧ r.pa ≤ 4) ∧ (r.pa ≤ r.lo ∧ r.lo ≤ 32) ∧ r.code.length ≤ 2000 ∧ r.code.all isIns = true := by
  unfold rtOk at h
  simp only [Bool.and_eq_true, decide_eq_true_eq] at h
  obtain ⟨⟨⟨⟨h1, h2⟩, h3⟩, h4⟩, h5⟩ := h
  exact ⟨h1, h2, h3, h4, h5⟩
theorem rtn_fwd {b : List UInt8} {r : Rt} {s : Rs} {rest : List UInt8} (h : St b s (rtBy r ++ rest)) (ho : rtOk r = true) (h6 : Rt6 r) (hl : r.code.length ≤ s.left) : rtnV b s = r ∧ St b (rtnR b s) rest ∧ (rtnR b s).left = s.left - r.code.length := by
  obtain ⟨⟨a1, a2⟩, ⟨a3, a4⟩, ⟨a5, a6⟩, a7, a8⟩ := rtOk_parts ho
  unfold rtBy at h
  simp only [List.append_assoc] at h
  rw [← List.append_assoc] at h
  obtain ⟨n1, n2, n3⟩ := nm_fwd h a1 a2
  obtain ⟨p1, p2, p3⟩ := num_fwd (least := 0) (most := 4) n2 (by omega) (by omega) (by omega)
  have e1 : rtP b s = r.pa.toNat := p1
  have q2 : St b (rtS2 b s) (uv r.lo.toNat ++ (uv r.code.length ++ (r.code.flatMap insBy ++ rest))) := p2
  obtain ⟨l1, l2, l3⟩ := num_fwd (least := rtP b s) (most := 32) q2 (by rw [e1]; omega) (by omega) (by omega)
  have e2 : rtL b s = r.lo.toNat := l1
  have q3 : St b (rtS3 b s) (uv r.code.length ++ (r.code.flatMap insBy ++ rest)) := l2
  have left3 : (rtS3 b s).left = s.left := l3.trans (p3.trans n3)
  obtain ⟨c1, c2, c3⟩ := num_fwd (least := 0) (most := (rtS3 b s).left) q3 (by omega) (by rw [left3]; exact hl) (by omega)
  have e3 : rtC b s = r.code.length := c1
  have q4 : St b (rtS5 b s) (r.code.flatMap insBy ++ rest) := c2
  have left5 : (rtS5 b s).left = s.left - r.code.length := by
    show (rtS4 b s).left - rtC b s = _
    rw [e3, show (rtS4 b s).left = (rtS3 b s).left from c3, left3]
  obtain ⟨d1, d2, d3⟩ := code_fwd q4 a8 h6
  refine ⟨?_, ?_, ?_⟩
  · unfold rtnV
    rw [n1, e1, e2, e3, d1]
    have x1 : ((r.pa.toNat : Nat) : Int) = r.pa := by omega
    have x2 : ((r.lo.toNat : Nat) : Int) = r.lo := by omega
    rw [x1, x2, bs_toList]
  · unfold rtnR
    rw [e3]
    exact d2
  · unfold rtnR
    rw [e3, d3, left5]
theorem sys_fwd {b : List UInt8} {y : Sy} {s : Rs} {rest : List UInt8} (h : St b s (sysBy y ++ rest)) (ho : sysOk y = true) (h6 : Sy6 y) (hl : y.run.code.length ≤ s.left) : sysV b s = y ∧ St b (sysR b s) rest ∧ (sysR b s).left = s.left - y.run.code.length := by
  obtain ⟨a1, a2, a3, a4, a5⟩ := sysOk_all ho
  unfold sysBy at h
  simp only [List.append_assoc] at h
  obtain ⟨n1, n2, n3⟩ := set_fwd h a1
  obtain ⟨m1, m2, m3⟩ := set_fwd (s := syS1 b s) n2 a2
  obtain ⟨k1, k2, k3⟩ := set_fwd (s := syS2 b s) m2 a3
  obtain ⟨j1, j2, j3⟩ := set_fwd (s := syS3 b s) k2 a4
  have lf : (syS4 b s).left = s.left := j3.trans (k3.trans (m3.trans n3))
  obtain ⟨r1, r2, r3⟩ := rtn_fwd (s := syS4 b s) j2 a5 h6 (by rw [lf]; exact hl)
  refine ⟨?_, r2, ?_⟩
  · unfold sysV
    rw [n1, m1, k1, j1, r1]
  · unfold sysR
    rw [r3, lf]
theorem sysL_fwd {b : List UInt8} : ∀ {l : List Sy} {s : Rs} {rest : List UInt8}, St b s (l.flatMap sysBy ++ rest) → l.all sysOk = true → (∀ y ∈ l, Sy6 y) → (l.map fun y => y.run.code.length).sum ≤ s.left → sysL b l.length s = l ∧ St b (sysG b l.length s) rest ∧ (sysG b l.length s).left = s.left - (l.map fun y => y.run.code.length).sum
  | [], s, rest, h, _, _, _ => ⟨rfl, h, rfl⟩
  | y :: l, s, rest, h, ha, h6, hs => by
    rw [List.flatMap_cons, List.append_assoc] at h
    rw [List.all_cons, Bool.and_eq_true] at ha
    simp only [List.map_cons, List.sum_cons] at hs ⊢
    obtain ⟨n1, n2, n3⟩ := sys_fwd h ha.1 (h6 y (by simp)) (by omega)
    obtain ⟨m1, m2, m3⟩ := sysL_fwd n2 ha.2 (fun j hj => h6 j (by simp [hj])) (by omega)
    refine ⟨?_, m2, ?_⟩
    · show sysV b s :: sysL b l.length (sysR b s) = _
      rw [n1, m1]
    · show (sysG b l.length (sysR b s)).left = _
      rw [m3, n3]
      omega
theorem rtsL_fwd {b : List UInt8} : ∀ {l : List Rt} {s : Rs} {rest : List UInt8}, St b s (l.flatMap rtBy ++ rest) → l.all rtOk = true → (∀ y ∈ l, Rt6 y) → (l.map fun y => y.code.length).sum ≤ s.left → rtsL b l.length s = l ∧ St b (rtsG b l.length s) rest ∧ (rtsG b l.length s).left = s.left - (l.map fun y => y.code.length).sum
  | [], s, rest, h, _, _, _ => ⟨rfl, h, rfl⟩
  | y :: l, s, rest, h, ha, h6, hs => by
    rw [List.flatMap_cons, List.append_assoc] at h
    rw [List.all_cons, Bool.and_eq_true] at ha
    simp only [List.map_cons, List.sum_cons] at hs ⊢
    obtain ⟨n1, n2, n3⟩ := rtn_fwd h ha.1 (h6 y (by simp)) (by omega)
    obtain ⟨m1, m2, m3⟩ := rtsL_fwd n2 ha.2 (fun j hj => h6 j (by simp [hj])) (by omega)
    refine ⟨?_, m2, ?_⟩
    · show rtnV b s :: rtsL b l.length (rtnR b s) = _
      rw [n1, m1]
    · show (rtsG b l.length (rtnR b s)).left = _
      rw [m3, n3]
      omega
/-- What is written is read as the same program. -/
theorem dec_fwd {p : Pg} (hm : mayOk p = true) (h1 : ∀ y ∈ p.sys, Sy6 y) (h2 : ∀ y ∈ p.fns, Rt6 y) : decF (pgBy p) = .inr p := by
  unfold mayOk at hm
  simp only [Bool.and_eq_true, decide_eq_true_eq] at hm
  obtain ⟨⟨⟨⟨a1, a2⟩, a3⟩, a4⟩, a5⟩ := hm
  unfold sizeOf at a5
  have h0 : St (pgBy p) rs0 (uv p.sys.length ++ (p.sys.flatMap sysBy ++ (uv p.fns.length ++ (p.fns.flatMap rtBy ++ [])))) := ⟨rfl, by show pgBy p = _; unfold pgBy; simp only [List.append_assoc, List.append_nil]⟩
  obtain ⟨n1, n2, n3⟩ := num_fwd (least := 0) (most := 16) h0 (by omega) a1 (by omega)
  have lf1 : (numR (pgBy p) 0 16 rs0).left = 2000 := n3
  obtain ⟨m1, m2, m3⟩ := sysL_fwd n2 a3 h1 (by rw [lf1]; omega)
  have e1 : pgN1 (pgBy p) rs0 = p.sys.length := n1
  have q2 : St (pgBy p) (pgS2 (pgBy p) rs0) (uv p.fns.length ++ (p.fns.flatMap rtBy ++ [])) := by unfold pgS2; rw [e1]; exact m2
  obtain ⟨k1, k2, k3⟩ := num_fwd (least := 0) (most := 16) q2 (by omega) a2 (by omega)
  have e2 : pgN2 (pgBy p) rs0 = p.fns.length := k1
  have lf2 : (pgS3 (pgBy p) rs0).left = 2000 - (p.sys.map fun y => y.run.code.length).sum := by
    refine (show (pgS3 (pgBy p) rs0).left = (pgS2 (pgBy p) rs0).left from k3).trans ?_
    unfold pgS2
    rw [e1]
    exact m3.trans (by rw [lf1])
  obtain ⟨j1, j2, j3⟩ := rtsL_fwd (s := pgS3 (pgBy p) rs0) k2 a4 h2 (by rw [lf2]; omega)
  have eR : pgR (pgBy p) rs0 = rtsG (pgBy p) p.fns.length (pgS3 (pgBy p) rs0) := by unfold pgR; rw [e2]
  have hend : ¬ (decS (pgBy p)).at' < (pgBy p).length := by
    have := j2.2
    rw [← eR] at this
    have h3 := List.drop_eq_nil_iff.1 this
    unfold decS
    omega
  have hbad : (decS (pgBy p)).bad = false := by unfold decS; rw [eR]; exact j2.1
  unfold decF
  rw [hbad, if_neg (by simpa using hend)]
  unfold pgV
  rw [e1, e2, show sysL (pgBy p) p.sys.length (pgS1 (pgBy p) rs0) = p.sys from m1, j1]
end Go.Proofs.YtpolajoephjdhaaGreatDoor

/-
  What is read is written as the same bytes, reader by reader.
-/
namespace Go.Proofs.YtpolajoephjdhaaGreatDoor
open Go.RowKit
set_option maxRecDepth 100000
/-- From one reader to the next, the bytes between. -/
def Sp (b : List UInt8) (s s' : Rs) (L : List UInt8) : Prop := s.bad = false ∧ b.drop s.at' = L ++ b.drop s'.at'
theorem Sp.trans {b : List UInt8} {s s' s2 : Rs} {L M : List UInt8} (h : Sp b s s' L) (k : Sp b s' s2 M) : Sp b s s2 (L ++ M) := ⟨h.1, by rw [h.2, k.2, List.append_assoc]⟩
theorem pass_bwd {s : Rs} {n : Nat} {r : Bool} (h : (passR s n r).bad = false) : s.bad = false ∧ n ≠ 0 ∧ r = true ∧ passR s n r = ⟨s.at' + n, s.left, false⟩ := by
  unfold passR at h ⊢
  by_cases hc : (s.bad || n == 0 || !r) = true
  · rw [if_pos hc] at h
    cases h
  · rw [if_neg hc]
    simp only [Bool.or_eq_true, beq_iff_eq, Bool.not_eq_true', not_or] at hc
    exact ⟨by simpa using hc.1.1, hc.1.2, by simpa using hc.2, rfl⟩
theorem num_bwd {b : List UInt8} {s : Rs} {least most : Nat} (h : (numR b least most s).bad = false) :
    Sp b s (numR b least most s) (uv (numV b least most s)) ∧ least ≤ numV b least most s ∧ numV b least most s ≤ most ∧ (numR b least most s).left = s.left := by
  obtain ⟨h1, h2, h3, h4⟩ := pass_bwd h
  simp only [decide_eq_true_eq] at h3
  have hv : numV b least most s = (Dec.getN (b.drop s.at')).1 := by unfold numV; rw [if_neg (by rw [h]; simp)]
  have e : numR b least most s = ⟨s.at' + (Dec.getN (b.drop s.at')).2, s.left, false⟩ := h4
  have sp := getN_split (b := b.drop s.at') (n := (Dec.getN (b.drop s.at')).1) (s := (Dec.getN (b.drop s.at')).2) rfl h2
  rw [hv, e]
  refine ⟨⟨h1, ?_⟩, h3.1, h3.2, rfl⟩
  rw [List.drop_drop] at sp
  exact sp
theorem sgn_bwd {b : List UInt8} {s : Rs} (h : (sgnR b s).bad = false) : Sp b s (sgnR b s) (uv (Lib.zigzag (sgnV b s))) ∧ I6 (sgnV b s) ∧ (sgnR b s).left = s.left := by
  obtain ⟨h1, h2, -, h4⟩ := pass_bwd h
  have hv : sgnV b s = Dec.unzig (Dec.getN (b.drop s.at')).1 := by unfold sgnV; rw [if_neg (by rw [h]; simp)]
  have e : sgnR b s = ⟨s.at' + (Dec.getN (b.drop s.at')).2, s.left, false⟩ := h4
  have sp := getN_split (b := b.drop s.at') (n := (Dec.getN (b.drop s.at')).1) (s := (Dec.getN (b.drop s.at')).2) rfl h2
  rw [hv, e, Dec.zigzag_unzig]
  refine ⟨⟨h1, ?_⟩, Dec.unzig_bounds (Dec.getN_lt _), rfl⟩
  rw [List.drop_drop] at sp
  exact sp
theorem nm_bwd {b : List UInt8} {s : Rs} (h : (nmR b s).bad = false) : Sp b s (nmR b s) (uv (nmV b s).length ++ nmV b s) ∧ 1 ≤ (nmV b s).length ∧ (nmV b s).length ≤ 16 ∧ (nmR b s).left = s.left := by
  obtain ⟨h1, h2, h3, h4⟩ := pass_bwd h
  have hv : nmV b s = (nmT b s).1 := by unfold nmV; rw [if_neg (by rw [h]; simp)]
  have e : nmR b s = ⟨s.at' + (nmT b s).2, s.left, false⟩ := h4
  have hb := text_back' ((b.take (s.at' + 17)).drop s.at') h2
  have hne : (nmT b s).1 ≠ [] := by simpa using h3
  have hw : (b.take (s.at' + 17)).drop s.at' = (b.drop s.at').take 17 := by rw [List.drop_take, show s.at' + 17 - s.at' = 17 by omega]
  have hlen : (uv (nmT b s).1.length ++ (nmT b s).1).length = (nmT b s).2 ∨ (uv (nmT b s).1.length ++ (nmT b s).1).length ≤ (nmT b s).2 := by
    right
    rw [show uv (nmT b s).1.length ++ (nmT b s).1 = _ from hb, List.length_take]
    exact Nat.min_le_left _ _
  have hle : (nmT b s).2 ≤ ((b.take (s.at' + 17)).drop s.at').length := by
    have := Dec.getN_le ((b.take (s.at' + 17)).drop s.at')
    unfold nmT textN
    split
    · exact Nat.zero_le _
    · simp only
      omega
  have h17 : (nmT b s).2 ≤ 17 := by
    refine Nat.le_trans hle ?_
    rw [hw, List.length_take]
    exact Nat.min_le_left _ _
  have hln : (uv (nmT b s).1.length ++ (nmT b s).1).length ≤ 17 := by omega
  have hu := uv_ne (nmT b s).1.length
  rw [List.length_append] at hln
  have hb2 : uv (nmT b s).1.length ++ (nmT b s).1 = (b.drop s.at').take (nmT b s).2 := by
    rw [show uv (nmT b s).1.length ++ (nmT b s).1 = _ from hb, hw, List.take_take]
    congr 1
    have : (nmT b s).2 = (textN ((b.take (s.at' + 17)).drop s.at')).2 := rfl
    rw [hw] at this
    omega
  rw [hv, e]
  refine ⟨⟨h1, ?_⟩, ?_, by omega, rfl⟩
  · rw [hb2, ← List.drop_drop, List.take_append_drop]
  · cases hx : (nmT b s).1 with
    | nil => exact absurd hx hne
    | cons x l => simp
theorem ins_bwd {b : List UInt8} {s : Rs} (h : (insR b s).bad = false) : Sp b s (insR b s) (insBy (insVv b s)) ∧ isIns (insVv b s) = true ∧ I6 (insVv b s).a ∧ (insR b s).left = s.left := by
  by_cases hn : insNm b s = true
  · have hR : insR b s = sgnR b (numR b 1 39 s) := by unfold insR; rw [if_pos hn]
    rw [hR] at h
    obtain ⟨k1, k2, k3⟩ := sgn_bwd h
    obtain ⟨n1, n2, n3, n4⟩ := num_bwd (b := b) (s := s) (least := 1) (most := 39) k1.1
    have hV : insVv b s = ⟨(numV b 1 39 s : Int), sgnV b (numR b 1 39 s)⟩ := by unfold insVv; rw [if_pos hn]
    have hnm : numb (opk (numV b 1 39 s : Int)) = true := hn
    rw [hR, hV]
    refine ⟨?_, ?_, k2, k3.trans n4⟩
    · unfold insBy
      simp only [hnm, if_true, Int.toNat_natCast]
      exact n1.trans k1
    · unfold isIns
      simp only [hnm, Bool.or_true, Bool.and_true, decide_eq_true_eq]
      omega
  · have hn' : insNm b s = false := by simpa using hn
    have hR : insR b s = numR b 1 39 s := by unfold insR; rw [if_neg hn]
    rw [hR] at h
    obtain ⟨n1, n2, n3, n4⟩ := num_bwd h
    have hV : insVv b s = ⟨(numV b 1 39 s : Int), 0⟩ := by unfold insVv; rw [if_neg hn]
    have hnm : numb (opk (numV b 1 39 s : Int)) = false := hn'
    rw [hR, hV]
    refine ⟨?_, ?_, (show I6 0 from ⟨by decide, by decide⟩), n4⟩
    · unfold insBy
      simp only [hnm, Bool.false_eq_true, if_false, Int.toNat_natCast, List.append_nil]
      exact n1
    · unfold isIns
      simp only [beq_self_eq_true, Bool.true_or, Bool.and_true, decide_eq_true_eq]
      omega
end Go.Proofs.YtpolajoephjdhaaGreatDoor

/-
  What is read is written as the same bytes: sets, routines, systems, programs.
-/
namespace Go.Proofs.YtpolajoephjdhaaGreatDoor
open Go.RowKit
set_option maxRecDepth 100000
theorem Sp.none {b : List UInt8} {s : Rs} (h : s.bad = false) : Sp b s s [] := ⟨h, rfl⟩
theorem code_bwd {b : List UInt8} : ∀ {n : Nat} {s : Rs}, (codeG b n s).bad = false → Sp b s (codeG b n s) ((codeVv b n s).flatMap insBy) ∧ (codeVv b n s).all isIns = true ∧ (∀ i ∈ codeVv b n s, I6 i.a) ∧ (codeVv b n s).length = n ∧ (codeG b n s).left = s.left
  | 0, s, h => ⟨Sp.none h, rfl, fun i hi => absurd hi (by simp [codeVv]), rfl, rfl⟩
  | n + 1, s, h => by
    obtain ⟨k1, k2, k3, k4, k5⟩ := code_bwd (n := n) (s := insR b s) h
    obtain ⟨n1, n2, n3, n4⟩ := ins_bwd k1.1
    have e : codeVv b (n + 1) s = insVv b s :: codeVv b n (insR b s) := rfl
    rw [e]
    refine ⟨?_, ?_, ?_, by rw [List.length_cons, k4], k5.trans n4⟩
    · rw [List.flatMap_cons]
      exact n1.trans k1
    · rw [List.all_cons, n2, k2]
      rfl
    · intro i hi
      rcases List.mem_cons.1 hi with rfl | hi
      · exact n3
      · exact k3 i hi
theorem setL_bwd {b : List UInt8} : ∀ {n last : Nat} {s : Rs}, (setG b n last s).bad = false → Sp b s (setG b n last s) ((setL b n last s).flatMap fun k => uv k.toNat) ∧ setFrom (last : Int) (setL b n last s) = true ∧ (setL b n last s).length = n ∧ (setG b n last s).left = s.left
  | 0, last, s, h => ⟨Sp.none h, rfl, rfl, rfl⟩
  | n + 1, last, s, h => by
    obtain ⟨k1, k2, k3, k4⟩ := setL_bwd (n := n) (last := numV b (last + 1) 12 s) (s := numR b (last + 1) 12 s) h
    obtain ⟨n1, n2, n3, n4⟩ := num_bwd k1.1
    have e : setL b (n + 1) last s = (numV b (last + 1) 12 s : Int) :: setL b n (numV b (last + 1) 12 s) (numR b (last + 1) 12 s) := rfl
    rw [e]
    refine ⟨?_, ?_, by rw [List.length_cons, k3], k4.trans n4⟩
    · rw [List.flatMap_cons, Int.toNat_natCast]
      exact n1.trans k1
    · simp only [setFrom, k2, Bool.and_true, decide_eq_true_eq]
      omega
theorem set_bwd {b : List UInt8} {s : Rs} (h : (setR b s).bad = false) : Sp b s (setR b s) (setBy (setV b s)) ∧ setOk (setV b s) = true ∧ (setR b s).left = s.left := by
  obtain ⟨k1, k2, k3, k4⟩ := setL_bwd (b := b) (n := numV b 0 12 s) (last := 0) (s := numR b 0 12 s) h
  obtain ⟨n1, n2, n3, n4⟩ := num_bwd k1.1
  have k3' : (setV b s).length = numV b 0 12 s := k3
  refine ⟨?_, k2, k4.trans n4⟩
  unfold setBy
  rw [k3']
  exact n1.trans k1
theorem rtn_bwd {b : List UInt8} {s : Rs} (h : (rtnR b s).bad = false) (hl : s.left ≤ 2000) : Sp b s (rtnR b s) (rtBy (rtnV b s)) ∧ rtOk (rtnV b s) = true ∧ Rt6 (rtnV b s) ∧ (rtnV b s).code.length ≤ s.left ∧ (rtnR b s).left = s.left - (rtnV b s).code.length := by
  obtain ⟨d1, d2, d3, d4, d5⟩ := code_bwd (b := b) (n := rtC b s) (s := rtS5 b s) h
  have b4 : (rtS4 b s).bad = false := d1.1
  obtain ⟨c1, c2, c3, c4⟩ := num_bwd (b := b) (s := rtS3 b s) (least := 0) (most := (rtS3 b s).left) b4
  obtain ⟨l1, l2, l3, l4⟩ := num_bwd (b := b) (s := rtS2 b s) (least := rtP b s) (most := 32) c1.1
  obtain ⟨p1, p2, p3, p4⟩ := num_bwd (b := b) (s := rtS1 b s) (least := 0) (most := 4) l1.1
  obtain ⟨n1, n2, n3, n4⟩ := nm_bwd (b := b) (s := s) p1.1
  have left3 : (rtS3 b s).left = s.left := l4.trans (p4.trans n4)
  have hc : rtC b s ≤ s.left := by rw [← left3]; exact c3
  have hcode : (rtnV b s).code.length = rtC b s := d4
  have hname : (rtnV b s).name.data.toList = nmV b s := rfl
  have hsize : (rtnV b s).name.size = (nmV b s).length := by
    have : (rtnV b s).name.data.toList.length = (nmV b s).length := by rw [hname]
    simpa using this
  refine ⟨?_, ?_, d3, by rw [hcode]; exact hc, ?_⟩
  · have c1' : Sp b (rtS3 b s) (rtS5 b s) (uv (rtC b s)) := c1
    have all := (((n1.trans p1).trans l1).trans c1').trans d1
    unfold rtBy
    rw [hsize, hname, hcode]
    exact all
  · unfold rtOk
    rw [hsize, hcode]
    have e1 : (rtnV b s).pa = (rtP b s : Int) := rfl
    have e2 : (rtnV b s).lo = (rtL b s : Int) := rfl
    have e3 : (rtnV b s).code = codeVv b (rtC b s) (rtS5 b s) := rfl
    have x1 : rtP b s ≤ 4 := p3
    have x2 : rtP b s ≤ rtL b s := l2
    have x3 : rtL b s ≤ 32 := l3
    rw [e1, e2, e3, d2]
    simp only [Bool.and_true, Bool.and_eq_true, decide_eq_true_eq]
    omega
  · unfold rtnR
    rw [d5, hcode]
    show (rtS4 b s).left - rtC b s = _
    rw [show (rtS4 b s).left = (rtS3 b s).left from c4, left3]
theorem sys_bwd {b : List UInt8} {s : Rs} (h : (sysR b s).bad = false) (hl : s.left ≤ 2000) : Sp b s (sysR b s) (sysBy (sysV b s)) ∧ sysOk (sysV b s) = true ∧ Sy6 (sysV b s) ∧ (sysV b s).run.code.length ≤ s.left ∧ (sysR b s).left = s.left - (sysV b s).run.code.length := by
  have lf : ∀ t, (syS4 b s).bad = false → t = (syS4 b s).left → t = s.left := fun t h4 e => by
    obtain ⟨a1, -, a3⟩ := set_bwd (b := b) (s := syS3 b s) h4
    obtain ⟨b1, -, b3⟩ := set_bwd (b := b) (s := syS2 b s) a1.1
    obtain ⟨c1, -, c3⟩ := set_bwd (b := b) (s := syS1 b s) b1.1
    obtain ⟨d1, -, d3⟩ := set_bwd (b := b) (s := s) c1.1
    exact e.trans (a3.trans (b3.trans (c3.trans d3)))
  have hb4 : (syS4 b s).left ≤ 2000 ∨ (syS4 b s).bad = true := by
    cases hb : (syS4 b s).bad with
    | true => exact .inr rfl
    | false => left; rw [lf _ hb rfl]; exact hl
  have hb : (syS4 b s).bad = false := by
    have : (rtnR b (syS4 b s)).bad = false := h
    obtain ⟨d1, -⟩ := code_bwd (b := b) (n := rtC b (syS4 b s)) (s := rtS5 b (syS4 b s)) this
    have b4 : (rtS4 b (syS4 b s)).bad = false := d1.1
    obtain ⟨c1, -⟩ := num_bwd (b := b) (s := rtS3 b (syS4 b s)) (least := 0) (most := (rtS3 b (syS4 b s)).left) b4
    obtain ⟨l1, -⟩ := num_bwd (b := b) (s := rtS2 b (syS4 b s)) (least := rtP b (syS4 b s)) (most := 32) c1.1
    obtain ⟨p1, -⟩ := num_bwd (b := b) (s := rtS1 b (syS4 b s)) (least := 0) (most := 4) l1.1
    obtain ⟨n1, -⟩ := nm_bwd (b := b) (s := syS4 b s) p1.1
    exact n1.1
  have e4 := lf _ hb rfl
  obtain ⟨r1, r2, r3, r4, r5⟩ := rtn_bwd (b := b) (s := syS4 b s) h (by rw [e4]; exact hl)
  obtain ⟨a1, a2, -⟩ := set_bwd (b := b) (s := syS3 b s) hb
  obtain ⟨b1, b2, -⟩ := set_bwd (b := b) (s := syS2 b s) a1.1
  obtain ⟨c1, c2, -⟩ := set_bwd (b := b) (s := syS1 b s) b1.1
  obtain ⟨d1, d2, -⟩ := set_bwd (b := b) (s := s) c1.1
  refine ⟨(((d1.trans c1).trans b1).trans a1).trans r1, ?_, r3, by rw [← e4]; exact r4, by rw [← e4]; exact r5⟩
  unfold sysOk
  show (setOk (setV b s) && setOk (setV b (syS1 b s)) && setOk (setV b (syS2 b s)) && setOk (setV b (syS3 b s)) && rtOk (rtnV b (syS4 b s))) = true
  rw [d2, c2, b2, a2, r2]
  rfl
end Go.Proofs.YtpolajoephjdhaaGreatDoor

/-
  What is read is written as the same bytes: programs.
-/
namespace Go.Proofs.YtpolajoephjdhaaGreatDoor
open Go.RowKit
set_option maxRecDepth 100000
theorem numR_lf (b : List UInt8) (l m : Nat) (s : Rs) : (numR b l m s).left = s.left := passR_left _ _ _
theorem nmR_lf (b : List UInt8) (s : Rs) : (nmR b s).left = s.left := passR_left _ _ _
theorem insR_lf (b : List UInt8) (s : Rs) : (insR b s).left = s.left := by
  unfold insR
  split
  · exact (passR_left _ _ _).trans (numR_lf _ _ _ _)
  · exact numR_lf _ _ _ _
theorem codeG_lf (b : List UInt8) : ∀ (n : Nat) (s : Rs), (codeG b n s).left = s.left
  | 0, _ => rfl
  | n + 1, s => (codeG_lf b n (insR b s)).trans (insR_lf b s)
theorem setG_lf (b : List UInt8) : ∀ (n last : Nat) (s : Rs), (setG b n last s).left = s.left
  | 0, _, _ => rfl
  | n + 1, _last, _s => (setG_lf b n _ _).trans (numR_lf _ _ _ _)
theorem setR_lf (b : List UInt8) (s : Rs) : (setR b s).left = s.left := (setG_lf b _ _ _).trans (numR_lf _ _ _ _)
theorem rtnR_lf (b : List UInt8) (s : Rs) : (rtnR b s).left ≤ s.left := by
  unfold rtnR
  rw [codeG_lf]
  show (rtS4 b s).left - rtC b s ≤ s.left
  have : (rtS4 b s).left = s.left := (numR_lf _ _ _ _).trans ((numR_lf _ _ _ _).trans ((numR_lf _ _ _ _).trans (nmR_lf _ _)))
  omega
theorem sysR_lf (b : List UInt8) (s : Rs) : (sysR b s).left ≤ s.left := by
  refine Nat.le_trans (rtnR_lf b _) ?_
  have : (syS4 b s).left = s.left := (setR_lf _ _).trans ((setR_lf _ _).trans ((setR_lf _ _).trans (setR_lf _ _)))
  omega
theorem sysL_bwd {b : List UInt8} : ∀ {n : Nat} {s : Rs}, (sysG b n s).bad = false → s.left ≤ 2000 → Sp b s (sysG b n s) ((sysL b n s).flatMap sysBy) ∧ (sysL b n s).all sysOk = true ∧ (∀ y ∈ sysL b n s, Sy6 y) ∧ (sysL b n s).length = n ∧ ((sysL b n s).map fun y => y.run.code.length).sum + (sysG b n s).left = s.left
  | 0, s, h, _ => ⟨Sp.none h, rfl, fun i hi => absurd hi (by simp [sysL]), rfl, by simp [sysL, sysG]⟩
  | n + 1, s, h, hl => by
    have hlf := sysR_lf b s
    obtain ⟨k1, k2, k3, k4, k5⟩ := sysL_bwd (n := n) (s := sysR b s) h (by omega)
    obtain ⟨n1, n2, n3, n4, n5⟩ := sys_bwd k1.1 hl
    have e : sysL b (n + 1) s = sysV b s :: sysL b n (sysR b s) := rfl
    have e2 : sysG b (n + 1) s = sysG b n (sysR b s) := rfl
    rw [e, e2]
    refine ⟨?_, ?_, ?_, by rw [List.length_cons, k4], ?_⟩
    · rw [List.flatMap_cons]
      exact n1.trans k1
    · rw [List.all_cons, n2, k2]
      rfl
    · intro i hi
      rcases List.mem_cons.1 hi with rfl | hi
      · exact n3
      · exact k3 i hi
    · simp only [List.map_cons, List.sum_cons]
      omega
theorem rtsL_bwd {b : List UInt8} : ∀ {n : Nat} {s : Rs}, (rtsG b n s).bad = false → s.left ≤ 2000 → Sp b s (rtsG b n s) ((rtsL b n s).flatMap rtBy) ∧ (rtsL b n s).all rtOk = true ∧ (∀ y ∈ rtsL b n s, Rt6 y) ∧ (rtsL b n s).length = n ∧ ((rtsL b n s).map fun y => y.code.length).sum + (rtsG b n s).left = s.left
  | 0, s, h, _ => ⟨Sp.none h, rfl, fun i hi => absurd hi (by simp [rtsL]), rfl, by simp [rtsL, rtsG]⟩
  | n + 1, s, h, hl => by
    have hlf := rtnR_lf b s
    obtain ⟨k1, k2, k3, k4, k5⟩ := rtsL_bwd (n := n) (s := rtnR b s) h (by omega)
    obtain ⟨n1, n2, n3, n4, n5⟩ := rtn_bwd k1.1 hl
    have e : rtsL b (n + 1) s = rtnV b s :: rtsL b n (rtnR b s) := rfl
    have e2 : rtsG b (n + 1) s = rtsG b n (rtnR b s) := rfl
    rw [e, e2]
    refine ⟨?_, ?_, ?_, by rw [List.length_cons, k4], ?_⟩
    · rw [List.flatMap_cons]
      exact n1.trans k1
    · rw [List.all_cons, n2, k2]
      rfl
    · intro i hi
      rcases List.mem_cons.1 hi with rfl | hi
      · exact n3
      · exact k3 i hi
    · simp only [List.map_cons, List.sum_cons]
      omega
theorem sysG_lf (b : List UInt8) : ∀ (n : Nat) (s : Rs), (sysG b n s).left ≤ s.left
  | 0, _ => Nat.le_refl _
  | n + 1, s => Nat.le_trans (sysG_lf b n (sysR b s)) (sysR_lf b s)
/-- What is read is written as the same bytes. -/
theorem dec_bwd {b : List UInt8} {p : Pg} (h : decF b = .inr p) : pgBy p = b ∧ mayOk p = true ∧ (∀ y ∈ p.sys, Sy6 y) ∧ ∀ y ∈ p.fns, Rt6 y := by
  unfold decF at h
  by_cases hc : ((decS b).bad || decide ((decS b).at' < b.length)) = true
  · rw [if_pos hc] at h
    cases h
  · rw [if_neg hc] at h
    obtain rfl := Sum.inr.inj h
    simp only [Bool.or_eq_true, decide_eq_true_eq, not_or] at hc
    obtain ⟨hb, hend⟩ := hc
    have hbad : (rtsG b (pgN2 b rs0) (pgS3 b rs0)).bad = false := by simpa [decS, pgR] using hb
    have l1 : (pgS1 b rs0).left = 2000 := numR_lf _ _ _ _
    have l2 : (pgS2 b rs0).left ≤ 2000 := by have := sysG_lf b (pgN1 b rs0) (pgS1 b rs0); unfold pgS2; omega
    have l3 : (pgS3 b rs0).left = (pgS2 b rs0).left := numR_lf _ _ _ _
    obtain ⟨j1, j2, j3, j4, j5⟩ := rtsL_bwd hbad (by omega)
    obtain ⟨k1, k2, k3, -⟩ := num_bwd (b := b) (s := pgS2 b rs0) (least := 0) (most := 16) j1.1
    obtain ⟨m1, m2, m3, m4, m5⟩ := sysL_bwd (b := b) (n := pgN1 b rs0) (s := pgS1 b rs0) k1.1 (by omega)
    obtain ⟨n1, n2, n3, -⟩ := num_bwd (b := b) (s := rs0) (least := 0) (most := 16) m1.1
    have e1 : (pgV b rs0).sys = sysL b (pgN1 b rs0) (pgS1 b rs0) := rfl
    have e2 : (pgV b rs0).fns = rtsL b (pgN2 b rs0) (pgS3 b rs0) := rfl
    have m1' : Sp b (pgS1 b rs0) (pgS2 b rs0) ((sysL b (pgN1 b rs0) (pgS1 b rs0)).flatMap sysBy) := m1
    have all := ((n1.trans m1').trans k1).trans j1
    have hlast : b.drop (rtsG b (pgN2 b rs0) (pgS3 b rs0)).at' = [] := by
      apply List.drop_eq_nil_iff.2
      have : ¬ (rtsG b (pgN2 b rs0) (pgS3 b rs0)).at' < b.length := by simpa [decS, pgR] using hend
      omega
    have h2 := all.2
    rw [hlast, List.append_nil] at h2
    refine ⟨?_, ?_, m3, j3⟩
    · unfold pgBy
      rw [e1, e2, m4, j4]
      exact h2.symm
    · unfold mayOk sizeOf
      rw [e1, e2, m4, j4, m2, j2]
      have m5' : ((sysL b (pgN1 b rs0) (pgS1 b rs0)).map fun y => y.run.code.length).sum + (pgS2 b rs0).left = (pgS1 b rs0).left := m5
      have a1 : pgN1 b rs0 ≤ 16 := n3
      have a2 : pgN2 b rs0 ≤ 16 := k3
      simp only [Bool.and_true, Bool.and_eq_true, decide_eq_true_eq]
      omega
end Go.Proofs.YtpolajoephjdhaaGreatDoor
