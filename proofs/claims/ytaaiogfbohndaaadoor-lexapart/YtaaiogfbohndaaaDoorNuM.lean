/-
  Numbers as texts.
-/
import Derived.Test.YtaaiogfbohndaaaDoorNum
namespace Go.Proofs.YtaaiogfbohndaaaDoor

theorem bt_app (a b : ByteArray) (i : Nat) : bt (a ++ b) i = if i < a.size then bt a i else bt b (i - a.size) := by
  unfold bt
  have e : (a ++ b).data.toList = a.data.toList ++ b.data.toList := by simp [ByteArray.data_append]
  have l : a.data.toList.length = a.size := by rw [Array.length_toList]; rfl
  rw [e, List.getD_eq_getElem?_getD, List.getD_eq_getElem?_getD, List.getD_eq_getElem?_getD]
  split
  · rw [List.getElem?_append_left (by omega)]
  · rw [List.getElem?_append_right (by omega), l]
theorem size_app (a b : ByteArray) : (a ++ b).size = a.size + b.size := ByteArray.size_append

theorem numV_acc (f : Nat → Nat) (k : Nat) : ∀ acc i, numV f acc k i = acc * 10 ^ k + numV f 0 k i := by
  induction k with
  | zero => intro acc i; rw [numV_zero, numV_zero]; simp
  | succ k ih =>
    intro acc i
    rw [numV_succ, numV_succ, ih, ih (0 * 10 + (f i - 48)), Nat.zero_mul, Nat.zero_add, Nat.add_mul, Nat.pow_succ, Nat.mul_assoc, Nat.mul_comm 10, Nat.add_assoc]
theorem numV_congr' {f g : Nat → Nat} (k : Nat) : ∀ (a b acc : Nat), (∀ i, i < k → f (a + i) = g (b + i)) → numV f acc k a = numV g acc k b := by
  induction k with
  | zero => intro a b acc h; rw [numV_zero, numV_zero]
  | succ k ih =>
    intro a b acc h
    have h0 : f a = g b := h 0 (by omega)
    rw [numV_succ, numV_succ, h0]
    refine ih (a + 1) (b + 1) _ fun i hi => ?_
    have := h (i + 1) (by omega)
    rw [show a + 1 + i = a + (i + 1) by omega, show b + 1 + i = b + (i + 1) by omega]
    exact this

theorem di_stl {f : Nat → Nat} {a : Nat} (h : isDi (f a) = true) : Stl f a ∧ isLe (f a) = false := by
  rw [isDi_iff] at h
  refine ⟨⟨?_, ?_, ?_⟩, ?_⟩
  · simp [isBl]; omega
  · rintro ⟨h1, _⟩; omega
  · rintro ⟨h1, _⟩; omega
  · simp [isLe]; omega
/-- A number that stands at a place. -/
theorem num_at {f : Nat → Nat} {n a e : Nat} (hz : Fz f n) (hae : a < e) (hen : e ≤ n) (hd : ∀ i, a ≤ i → i < e → isDi (f i) = true) (he : isDi (f e) = false) :
    lexA f n a = if numOk f a e then (if isWo (f e) then .no e else Rs.cons ⟨2, a, e⟩ (lexA f n e)) else .no a := by
  obtain ⟨h1, h2⟩ := di_stl (hd a (Nat.le_refl _) hae)
  exact lexA_num hz (by omega) h1 h2 (hd a (Nat.le_refl _) hae) (runE_is _ _ _ _ (by omega) (fun j j1 j2 => hd j j1 j2) (Or.inl ⟨he, by omega⟩))

/-- The digits of a number. -/
structure Dg (s : ByteArray) : Prop where
  pos : 1 ≤ s.size
  le : s.size ≤ 19
  dig : ∀ i, i < s.size → isDi (bt s i) = true
  lead : s.size = 1 ∨ bt s 0 ≠ 48
  fit : numV (bt s) 0 s.size 0 < 9223372036854775808

theorem dg_one {s : ByteArray} (h : Dg s) : lexS s = .ok [⟨2, 0, s.size⟩, ⟨0, s.size, s.size⟩] := by
  unfold lexS
  rw [num_at (bt_z s) h.pos (Nat.le_refl _) (fun i _ hi => h.dig i hi) (by rw [bt_z s s.size (Nat.le_refl _)]; rfl), if_pos, if_neg, lexA_fin (bt_z s)]
  · rfl
  · rw [bt_z s s.size (Nat.le_refl _)]; decide
  · unfold numOk
    have := h.fit
    rcases h.lead with h1 | h1
    · simp [h1] at this ⊢; exact this
    · simp [h1]; exact this
theorem dg_zero {s : ByteArray} (h : Dg s) : lexS (⟨#[48]⟩ ++ s) = .no 0 := by
  unfold lexS
  have hp := h.pos
  have hz : ((⟨#[48]⟩ : ByteArray) ++ s).size = 1 + s.size := size_app _ _
  have hb : ∀ i, bt (⟨#[48]⟩ ++ s) i = if i < 1 then 48 else bt s (i - 1) := fun i => by
    rw [bt_app]
    show (if i < 1 then bt ⟨#[48]⟩ i else bt s (i - 1)) = _
    split
    · rename_i h; obtain rfl : i = 0 := by omega
      rfl
    · rfl
  rw [num_at (e := 1 + s.size) (bt_z _) (by omega) (by omega), if_neg]
  · unfold numOk
    rw [hb 0, if_pos (by omega)]
    intro hh
    have h1 : (1 + s.size == 0 + 1) = false := by rw [beq_eq_false_iff_ne]; omega
    rw [h1] at hh
    cases hh
  · intro i _ hi
    rw [hb]
    split
    · rfl
    · exact h.dig _ (by omega)
  · rw [hb, if_neg (by omega), show 1 + s.size - 1 = s.size by omega, bt_z s s.size (Nat.le_refl _)]; rfl
theorem dg_x {s : ByteArray} (h : Dg s) : lexS (s ++ ⟨#[120]⟩) = .no s.size := by
  unfold lexS
  have hp := h.pos
  have hz : (s ++ (⟨#[120]⟩ : ByteArray)).size = s.size + 1 := size_app _ _
  have hb : ∀ i, i < s.size → bt (s ++ ⟨#[120]⟩) i = bt s i := fun i hi => by rw [bt_app, if_pos hi]
  have hx : bt (s ++ ⟨#[120]⟩) s.size = 120 := by rw [bt_app, if_neg (by omega), Nat.sub_self]; rfl
  rw [num_at (e := s.size) (bt_z _) (by omega) (by omega) (fun i _ hi => by rw [hb i hi]; exact h.dig i hi) (by rw [hx]; rfl), if_pos, if_pos (by rw [hx]; rfl)]
  unfold numOk
  have := h.fit
  rw [numV_congr' (f := bt (s ++ ⟨#[120]⟩)) (g := bt s) (s.size - 0) 0 0 0 (fun i hi => by simpa using hb i (by omega)), hb 0 (by omega)]
  rcases h.lead with h1 | h1
  · simp [h1] at this ⊢; exact this
  · simp [h1]; exact this
def zeros : ByteArray := ⟨#[48, 48, 48, 48, 48, 48, 48, 48, 48, 48, 48, 48, 48, 48, 48, 48, 48, 48]⟩
theorem zeros_dig : ∀ i, i < 18 → bt zeros i = 48 := by decide
theorem dg_great {s : ByteArray} (h : Dg s) : lexS ((⟨#[49]⟩ ++ s) ++ zeros) = .no 0 := by
  unfold lexS
  have hp := h.pos
  have hl := h.le
  have hz1 : ((⟨#[49]⟩ : ByteArray) ++ s).size = 1 + s.size := size_app _ _
  have hz : (((⟨#[49]⟩ : ByteArray) ++ s) ++ zeros).size = 1 + s.size + 18 := by rw [size_app, hz1]; rfl
  have hb : ∀ i, bt (((⟨#[49]⟩ : ByteArray) ++ s) ++ zeros) i = if i < 1 + s.size then (if i < 1 then 49 else bt s (i - 1)) else bt zeros (i - (1 + s.size)) := fun i => by
    rw [bt_app, hz1, bt_app]
    split
    · show (if i < 1 then bt ⟨#[49]⟩ i else bt s (i - 1)) = _
      split
      · rename_i h; obtain rfl : i = 0 := by omega
        rfl
      · rfl
    · rfl
  rw [num_at (e := 1 + s.size + 18) (bt_z _) (by omega) (by omega), if_neg]
  · unfold numOk
    intro hh
    simp only [Bool.and_eq_true, decide_eq_true_eq] at hh
    have h2 := hh.2
    rw [show 1 + s.size + 18 - 0 = (s.size + 18) + 1 by omega, numV_succ, numV_acc, hb 0, if_pos (by omega), if_pos (by omega)] at h2
    have h3 : 10 ^ 19 ≤ 10 ^ (s.size + 18) := Nat.pow_le_pow_right (by omega) (by omega)
    have h4 : (10 : Nat) ^ 19 = 10000000000000000000 := by decide
    have h5 : (0 * 10 + (49 - 48)) * 10 ^ (s.size + 18) = 10 ^ (s.size + 18) := by simp
    rw [h5] at h2
    omega
  · intro i _ hi
    rw [hb]
    split
    · split
      · rfl
      · exact h.dig _ (by omega)
    · rw [zeros_dig _ (by omega)]; rfl
  · have := bt_z (((⟨#[49]⟩ : ByteArray) ++ s) ++ zeros) (1 + s.size + 18) (by omega)
    rw [this]; rfl
theorem dg_paren {s : ByteArray} (h : Dg s) : lexS ((⟨#[40]⟩ ++ s) ++ ⟨#[41]⟩) = .ok [⟨3, 0, 1⟩, ⟨2, 1, 1 + s.size⟩, ⟨3, 1 + s.size, 1 + s.size + 1⟩, ⟨0, 1 + s.size + 1, 1 + s.size + 1⟩] := by
  unfold lexS
  have hp := h.pos
  have hl := h.le
  have hz1 : ((⟨#[40]⟩ : ByteArray) ++ s).size = 1 + s.size := size_app _ _
  have hz : (((⟨#[40]⟩ : ByteArray) ++ s) ++ (⟨#[41]⟩ : ByteArray)).size = 1 + s.size + 1 := by rw [size_app, hz1]; rfl
  have hb : ∀ i, bt (((⟨#[40]⟩ : ByteArray) ++ s) ++ (⟨#[41]⟩ : ByteArray)) i = if i < 1 + s.size then (if i < 1 then 40 else bt s (i - 1)) else bt ⟨#[41]⟩ (i - (1 + s.size)) := fun i => by
    rw [bt_app, hz1, bt_app]
    split
    · show (if i < 1 then bt ⟨#[40]⟩ i else bt s (i - 1)) = _
      split
      · rename_i h; obtain rfl : i = 0 := by omega
        rfl
      · rfl
    · rfl
  have hzz := bt_z (((⟨#[40]⟩ : ByteArray) ++ s) ++ (⟨#[41]⟩ : ByteArray))
  rw [hz] at hzz ⊢
  generalize bt (((⟨#[40]⟩ : ByteArray) ++ s) ++ (⟨#[41]⟩ : ByteArray)) = f at *
  have f0 : f 0 = 40 := by rw [hb, if_pos (by omega), if_pos (by omega)]
  have fe : f (1 + s.size) = 41 := by rw [hb, if_neg (by omega), Nat.sub_self]; rfl
  have fl : f (1 + s.size + 1) = 0 := hzz _ (Nat.le_refl _)
  have fd : ∀ i, 1 ≤ i → i < 1 + s.size → f i = bt s (i - 1) := fun i h1 h2 => by rw [hb, if_pos h2, if_neg (by omega)]
  have f1 := fd 1 (by omega) (by omega)
  have hd1 := (isDi_iff _).1 (h.dig 0 (by omega))
  have sg0 : sgn (f 0) (f (0 + 1)) = 1 := by rw [f0]; unfold sgn two one; simp
  have sge : sgn (f (1 + s.size)) (f (1 + s.size + 1)) = 1 := by rw [fe]; unfold sgn two one; simp
  rw [lexA_sign hzz (by omega) ⟨by rw [f0]; rfl, by rw [f0]; omega, by rw [f0]; omega⟩ (by rw [f0]; rfl) (by rw [f0]; rfl), sg0, if_neg (by omega)]
  rw [show 0 + 1 = 1 from rfl]
  rw [num_at (e := 1 + s.size) hzz (by omega) (by omega) (fun i h1 h2 => by rw [fd i h1 h2]; exact h.dig _ (by omega)) (by rw [fe]; rfl), if_pos, if_neg (by rw [fe]; decide)]
  · rw [lexA_sign hzz (by omega) ⟨by rw [fe]; rfl, by rw [fe]; omega, by rw [fe]; omega⟩ (by rw [fe]; rfl) (by rw [fe]; rfl), sge, if_neg (by omega), lexA_fin hzz]
    rfl
  · unfold numOk
    have := h.fit
    rw [show 1 + s.size - 1 = s.size by omega, numV_congr' (f := f) (g := bt s) s.size 1 0 0 (fun i hi => by rw [fd (1 + i) (by omega) (by omega)]; congr 1; omega), f1]
    rcases h.lead with h1 | h1
    · simp [h1] at this ⊢; exact this
    · simp [h1]; exact this

/-- While a number is written, from the right. -/
structure Nb (s : ByteArray) (k n : Nat) : Prop where
  le : s.size ≤ 19
  dig : ∀ i, i < s.size → isDi (bt s i) = true
  val : n = k * 10 ^ s.size + numV (bt s) 0 s.size 0
  lead : s.size = 0 ∨ 0 < k ∨ s.size = 1 ∨ bt s 0 ≠ 48
theorem Nb.fin {s : ByteArray} {n : Nat} (h : Nb s 0 n) (hn : n < 9223372036854775808) (hs : s.size ≠ 0) : Dg s := by
  have hv := h.val
  rw [Nat.zero_mul, Nat.zero_add] at hv
  exact ⟨by omega, h.le, h.dig, by rcases h.lead with h | h | h | h <;> first | omega | exact Or.inl h | exact Or.inr h, by omega⟩
theorem Nb.next {s : ByteArray} {k n : Nat} (h : Nb s k n) (hn : n < 9223372036854775808) (hk : 0 < k ∨ s.size = 0) (d : UInt8) (hd : d.toNat = 48 + k % 10) : Nb (⟨#[d]⟩ ++ s) (k / 10) n := by
  have hz : ((⟨#[d]⟩ : ByteArray) ++ s).size = s.size + 1 := by rw [size_app]; show 1 + s.size = _; omega
  have hb : ∀ i, bt (⟨#[d]⟩ ++ s) i = if i < 1 then 48 + k % 10 else bt s (i - 1) := fun i => by
    rw [bt_app]
    show (if i < 1 then bt ⟨#[d]⟩ i else bt s (i - 1)) = _
    split
    · rename_i h; obtain rfl : i = 0 := by omega
      exact hd
    · rfl
  have hl : s.size ≤ 18 := by
    rcases hk with hk | hk
    · have hv := h.val
      by_cases hs : s.size ≤ 18
      · exact hs
      · have h3 : 10 ^ 19 ≤ 10 ^ s.size := Nat.pow_le_pow_right (by omega) (by omega)
        have h4 : (10 : Nat) ^ 19 = 10000000000000000000 := by decide
        have h5 : 1 * 10 ^ s.size ≤ k * 10 ^ s.size := Nat.mul_le_mul_right _ hk
        omega
    · omega
  refine ⟨by omega, ?_, ?_, ?_⟩
  · intro i hi
    rw [hb]
    split
    · rw [isDi_iff]; omega
    · exact h.dig _ (by omega)
  · rw [hz, numV_succ, hb 0, if_pos (by omega), numV_acc]
    rw [numV_congr' (f := bt (⟨#[d]⟩ ++ s)) (g := bt s) s.size (0 + 1) 0 0 (fun i hi => by rw [hb, if_neg (by omega)]; congr 1; omega)]
    have e1 : 0 * 10 + (48 + k % 10 - 48) = k % 10 := by omega
    have e2 : k / 10 * 10 ^ (s.size + 1) = k / 10 * 10 * 10 ^ s.size := by rw [Nat.pow_succ, Nat.mul_assoc, Nat.mul_comm 10]
    rw [e1, e2, ← Nat.add_assoc, ← Nat.add_mul]
    have e3 : k / 10 * 10 + k % 10 = k := by omega
    rw [e3]
    exact h.val
  · rw [hz]
    by_cases hk' : k / 10 = 0
    · right; right
      by_cases hk0 : k = 0
      · left; omega
      · right
        rw [hb 0, if_pos (by omega)]
        omega
    · right; left; omega
end Go.Proofs.YtaaiogfbohndaaaDoor
