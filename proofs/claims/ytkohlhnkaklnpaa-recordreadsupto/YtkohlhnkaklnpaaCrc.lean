/-
  THE SUM OF PACK (A5), AS PLAIN MATHEMATICS: no program in this text. 'crcBit': one bit is shifted out. 'crc': the sum of a list of bytes. 'refByte': the same byte, its bits taken one by one.
-/
namespace Go.Proofs.Ytkohlhnkaklnpaa.Crc

def poly : Nat := 2197175160
def crcBit (s : Nat) : Nat := (s / 2) ^^^ (poly * (s % 2))
def crcBits : Nat → Nat → Nat
  | 0, s => s
  | n + 1, s => crcBits n (crcBit s)
def crcByte (s b : Nat) : Nat := crcBits 8 (s ^^^ b)
def crcFold (s : Nat) (l : List UInt8) : Nat := l.foldl (fun s b => crcByte s b.toNat) s
def crc (l : List UInt8) : Nat := crcFold 4294967295 l ^^^ 4294967295

theorem xor_lt {a b : Nat} (ha : a < 4294967296) (hb : b < 4294967296) : a ^^^ b < 4294967296 := Nat.xor_lt_two_pow (n := 32) ha hb
theorem poly_mul (s : Nat) : poly * (s % 2) < 4294967296 := by unfold poly; omega
theorem crcBit_lt {s : Nat} (h : s < 4294967296) : crcBit s < 4294967296 := xor_lt (by omega) (poly_mul s)
theorem crcBits_lt : ∀ (n : Nat) {s : Nat}, s < 4294967296 → crcBits n s < 4294967296
  | 0, _, h => h
  | n + 1, _, h => crcBits_lt n (crcBit_lt h)
theorem crcBits_succ : ∀ (n s : Nat), crcBits (n + 1) s = crcBit (crcBits n s)
  | 0, _ => rfl
  | n + 1, s => crcBits_succ n (crcBit s)
theorem crcByte_lt {s b : Nat} (h : s < 4294967296) (hb : b < 256) : crcByte s b < 4294967296 := crcBits_lt 8 (xor_lt h (by omega))
theorem crcFold_lt : ∀ (l : List UInt8) {s : Nat}, s < 4294967296 → crcFold s l < 4294967296
  | [], _, h => h
  | b :: l, _, h => crcFold_lt l (crcByte_lt h b.toNat_lt)
theorem crc_lt (l : List UInt8) : crc l < 4294967296 := xor_lt (crcFold_lt l (by omega)) (by omega)
theorem crcFold_snoc (s : Nat) (l : List UInt8) (b : UInt8) : crcFold s (l ++ [b]) = crcByte (crcFold s l) b.toNat := by simp [crcFold]
theorem crcFold_append (s : Nat) (l m : List UInt8) : crcFold s (l ++ m) = crcFold (crcFold s l) m := by simp [crcFold]

/-! ### The reference's way: bit by bit -/
def refBit (s c : Nat) : Nat := if c % 2 = s % 2 then s / 2 else (s / 2) ^^^ poly
def refBits : Nat → Nat → Nat → Nat
  | 0, s, _ => s
  | n + 1, s, b => refBit (refBits n s b) (b / 2 ^ n)

theorem xor_mod2 (a b : Nat) : (a ^^^ b) % 2 = (a % 2 + b % 2) % 2 := by
  have h := Nat.testBit_xor a b 0
  simp only [Nat.testBit_zero] at h
  have ha := Nat.mod_two_eq_zero_or_one a
  have hb := Nat.mod_two_eq_zero_or_one b
  have hx := Nat.mod_two_eq_zero_or_one (a ^^^ b)
  rcases ha with ha | ha <;> rcases hb with hb | hb <;> rcases hx with hx | hx <;> simp [ha, hb, hx] at h ⊢
theorem xor_div2 (a b : Nat) : (a ^^^ b) / 2 = (a / 2) ^^^ (b / 2) := by
  apply Nat.eq_of_testBit_eq
  intro i
  rw [Nat.testBit_xor, ← Nat.testBit_succ, ← Nat.testBit_succ, ← Nat.testBit_succ, Nat.testBit_xor]

/-- One bit: what was not yet taken of the byte stands beside. -/
theorem crcBit_ref (r c : Nat) : crcBit (r ^^^ c) = refBit r c ^^^ (c / 2) := by
  unfold crcBit refBit
  rw [xor_div2, xor_mod2]
  rcases Nat.mod_two_eq_zero_or_one r with hr | hr <;> rcases Nat.mod_two_eq_zero_or_one c with hc | hc <;> simp [hr, hc]
  · rw [Nat.xor_assoc, Nat.xor_assoc, Nat.xor_comm poly]
  · rw [Nat.xor_assoc, Nat.xor_assoc, Nat.xor_comm poly]

theorem crcBits_ref (s b : Nat) : ∀ n, crcBits n (s ^^^ b) = refBits n s b ^^^ (b / 2 ^ n)
  | 0 => by simp [crcBits, refBits]
  | n + 1 => by
    rw [crcBits_succ, crcBits_ref s b n, crcBit_ref, Nat.div_div_eq_div_mul, ← Nat.pow_succ]
    rfl

theorem refByte_eq (s b : Nat) (hb : b < 256) : refBits 8 s b = crcByte s b := by
  have h := crcBits_ref s b 8
  rw [Nat.div_eq_of_lt (by simpa using hb), Nat.xor_zero] at h
  exact h.symm
theorem refBit_lt {s c : Nat} (h : s < 4294967296) : refBit s c < 4294967296 := by
  unfold refBit
  split
  · omega
  · exact xor_lt (by omega) (by unfold poly; omega)
theorem refBits_lt {s : Nat} (b : Nat) (h : s < 4294967296) : ∀ n, refBits n s b < 4294967296
  | 0 => h
  | n + 1 => refBit_lt (refBits_lt b h n)

/-! ### A burst of up to 32 bits is told -/
theorem crcBit_xor (a b : Nat) : crcBit (a ^^^ b) = crcBit a ^^^ crcBit b := by
  unfold crcBit
  rw [xor_div2, xor_mod2]
  rcases Nat.mod_two_eq_zero_or_one a with ha | ha <;> rcases Nat.mod_two_eq_zero_or_one b with hb | hb <;> simp [ha, hb]
  · rw [Nat.xor_assoc]
  · rw [Nat.xor_assoc, Nat.xor_assoc, Nat.xor_comm poly]
  · rw [Nat.xor_assoc, Nat.xor_comm poly, Nat.xor_assoc, Nat.xor_self, Nat.xor_zero]
theorem crcBits_xor : ∀ (n a b : Nat), crcBits n (a ^^^ b) = crcBits n a ^^^ crcBits n b
  | 0, _, _ => rfl
  | n + 1, a, b => by simp only [crcBits]; rw [crcBit_xor, crcBits_xor n]

/-- Nothing but 0 becomes 0: the polynomial's highest bit is 1. -/
theorem crcBit_zero {s : Nat} (h : s < 4294967296) (h0 : crcBit s = 0) : s = 0 := by
  unfold crcBit at h0
  rcases Nat.mod_two_eq_zero_or_one s with hs | hs
  · rw [hs] at h0
    simp at h0
    omega
  · rw [hs, Nat.mul_one] at h0
    have h1 : (s / 2).testBit 31 = poly.testBit 31 := by
      have := congrArg (fun x => Nat.testBit x 31) h0
      simp only [Nat.testBit_xor, Nat.zero_testBit] at this
      revert this
      cases (s / 2).testBit 31 <;> cases poly.testBit 31 <;> simp
    rw [Nat.testBit_lt_two_pow (show s / 2 < 2 ^ 31 by omega)] at h1
    exact absurd h1 (by decide)
theorem crcBits_zero : ∀ (n : Nat) {s : Nat}, s < 4294967296 → crcBits n s = 0 → s = 0
  | 0, _, _, h0 => h0
  | n + 1, _, h, h0 => crcBit_zero h (crcBits_zero n (crcBit_lt h) h0)

theorem crcByte_xor (s t b c : Nat) : crcByte (s ^^^ t) (b ^^^ c) = crcByte s b ^^^ crcByte t c := by
  unfold crcByte
  rw [← crcBits_xor]
  congr 1
  rw [Nat.xor_assoc, ← Nat.xor_assoc t, Nat.xor_comm t b, Nat.xor_assoc b, ← Nat.xor_assoc s]

/-- The same bytes behind: another state stays another one. -/
theorem crcFold_inj : ∀ (l : List UInt8) {s t : Nat}, s < 4294967296 → t < 4294967296 → crcFold s l = crcFold t l → s = t
  | [], _, _, _, _, h => h
  | b :: l, s, t, hs, ht, h => by
    have h1 := crcFold_inj l (crcByte_lt hs b.toNat_lt) (crcByte_lt ht b.toNat_lt) h
    have h2 : crcBits 8 (s ^^^ t) = 0 := by
      have e : crcByte (s ^^^ t) (b.toNat ^^^ b.toNat) = 0 := by rw [crcByte_xor, h1, Nat.xor_self]
      rw [Nat.xor_self] at e
      simpa [crcByte] using e
    have h3 := crcBits_zero 8 (xor_lt hs ht) h2
    have h4 : (s ^^^ t) ^^^ t = t := by rw [h3, Nat.zero_xor]
    rwa [Nat.xor_assoc, Nat.xor_self, Nat.xor_zero] at h4

/-- What lies above the lowest bit comes down by one, and nothing else happens. -/
theorem crcBit_even (x : Nat) : crcBit (2 * x) = x := by
  unfold crcBit
  simp [show 2 * x / 2 = x by omega]
theorem crcBits_up : ∀ (n x : Nat), crcBits n (2 ^ n * x) = x
  | 0, x => by simp [crcBits]
  | n + 1, x => by
    simp only [crcBits]
    rw [Nat.pow_succ, Nat.mul_comm (2 ^ n), Nat.mul_assoc, crcBit_even, crcBits_up n x]

theorem crcBits_add : ∀ (n m s : Nat), crcBits (n + m) s = crcBits m (crcBits n s)
  | 0, m, s => by simp [crcBits]
  | n + 1, m, s => by
    rw [show n + 1 + m = (n + m) + 1 by omega]
    simp only [crcBits]
    exact crcBits_add n m (crcBit s)

/-- Four bytes at once. -/
theorem four (s a b c d : Nat) :
    crcByte (crcByte (crcByte (crcByte s a) b) c) d = crcBits 32 (s ^^^ (a ^^^ (2 ^ 8 * b ^^^ (2 ^ 16 * c ^^^ 2 ^ 24 * d)))) := by
  have e1 : ∀ (n x y : Nat), crcBits n (x ^^^ 2 ^ n * y) = crcBits n x ^^^ y := fun n x y => by rw [crcBits_xor, crcBits_up]
  unfold crcByte
  rw [show (32 : Nat) = 8 + (8 + (8 + 8)) by rfl, crcBits_add, crcBits_add, crcBits_add]
  have f1 : s ^^^ (a ^^^ (2 ^ 8 * b ^^^ (2 ^ 16 * c ^^^ 2 ^ 24 * d))) = (s ^^^ a) ^^^ 2 ^ 8 * (b ^^^ (2 ^ 8 * c ^^^ 2 ^ 16 * d)) := by
    have e2 : ∀ x y : Nat, 2 ^ 8 * (x ^^^ y) = 2 ^ 8 * x ^^^ 2 ^ 8 * y := fun x y => by
      have := Nat.shiftLeft_xor_distrib (a := x) (b := y) (i := 8)
      simpa [Nat.shiftLeft_eq, Nat.mul_comm] using this
    rw [e2, e2, ← Nat.mul_assoc, ← Nat.mul_assoc, ← Nat.pow_add, ← Nat.pow_add, Nat.xor_assoc]
  have f2 : b ^^^ (2 ^ 8 * c ^^^ 2 ^ 16 * d) = b ^^^ 2 ^ 8 * (c ^^^ 2 ^ 8 * d) := by
    have e2 : ∀ x y : Nat, 2 ^ 8 * (x ^^^ y) = 2 ^ 8 * x ^^^ 2 ^ 8 * y := fun x y => by
      have := Nat.shiftLeft_xor_distrib (a := x) (b := y) (i := 8)
      simpa [Nat.shiftLeft_eq, Nat.mul_comm] using this
    rw [e2, ← Nat.mul_assoc, ← Nat.pow_add]
  rw [f1, e1, f2, ← Nat.xor_assoc, e1, ← Nat.xor_assoc, e1]

end Go.Proofs.Ytkohlhnkaklnpaa.Crc
