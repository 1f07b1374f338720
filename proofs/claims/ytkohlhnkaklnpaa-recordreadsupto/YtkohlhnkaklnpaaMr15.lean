import Derived.Test.YtkohlhnkaklnpaaMr05
import Derived.Test.YtkohlhnkaklnpaaMr00
import Derived.Lib.VarintMem
import Derived.Test.YtkohlhnkaklnpaaMr06
import Derived.Test.YtkohlhnkaklnpaaMr07
/-
  Records, there and back: what is written is told, whatever stands behind it; what is told is written so. No program in this text.
-/
namespace Go.Proofs.Ytkohlhnkaklnpaa
open Go.RowKit

/-! ### Numbers -/
theorem byte_small {y : Nat} (h : y < 256) : (y.toUInt8).toNat = y := by simp [Nat.toUInt8, UInt8.toNat_ofNat']; omega
theorem getFrom_put : ∀ (f y k acc : Nat) (b : List UInt8), y ≤ f → y * 2 ^ (7 * k) < 18446744073709551616 → k < 10 → (0 < k → 0 < y) → Dec.getFrom k acc (Lib.uvarint y ++ b) = (acc + y * 2 ^ (7 * k), k + (Lib.uvarint y).length)
  | f, y, k, acc, b, hf, hy, hk, hpos => by
    by_cases hs : y < 128
    · rw [Lib.uvarint_small hs]
      have e := byte_small (show y < 256 by omega)
      have h9 : k = 9 → y ≤ 1 := by
        rintro rfl
        have : 2 ^ (7 * 9) = 9223372036854775808 := by decide
        omega
      show Dec.getFrom k acc (y.toUInt8 :: b) = _
      rw [Dec.getFrom_last hk (by omega) (by omega), e]
      rfl
    · have hb : (y % 128 + 128).toUInt8.toNat = y % 128 + 128 := byte_small (by omega)
      have hpow : 2 ^ (7 * (k + 1)) = 128 * 2 ^ (7 * k) := by rw [show 7 * (k + 1) = 7 * k + 7 by omega, Nat.pow_add, Nat.mul_comm]
      have hk8 : k < 9 := by
        refine Classical.byContradiction fun h => ?_
        have e : k = 9 := by omega
        subst e
        have : 2 ^ (7 * 9) = 9223372036854775808 := by decide
        omega
      have hm : y * 2 ^ (7 * k) = y % 128 * 2 ^ (7 * k) + y / 128 * 2 ^ (7 * (k + 1)) := by
        rw [hpow, ← Nat.mul_assoc, ← Nat.add_mul]
        congr 1
        omega
      rw [Lib.uvarint_big (by omega), List.cons_append, Dec.getFrom_more hk (by omega)]
      cases f with
      | zero => omega
      | succ f =>
        rw [getFrom_put f (y / 128) (k + 1) _ b (by omega) (by omega) (by omega) (by omega), hb]
        simp only [List.length_cons, Prod.mk.injEq]
        constructor
        · rw [show (y % 128 + 128) % 128 = y % 128 by omega, hm]
          omega
        · omega
theorem getN_put {n : Nat} (h : n < 18446744073709551616) (b : List UInt8) : Dec.getN (Lib.uvarint n ++ b) = (n, (Lib.uvarint n).length) := by
  have := getFrom_put n n 0 0 b (Nat.le_refl _) (by simpa using h) (by omega) (by omega)
  simpa [Dec.getN] using this
theorem getFrom_back : ∀ (b : List UInt8) (k acc : Nat), k ≤ 10 → (Dec.getFrom k acc b).2 ≠ 0 → ∃ y, (Dec.getFrom k acc b).1 = acc + y * 2 ^ (7 * k) ∧ (Dec.getFrom k acc b).2 = k + (Lib.uvarint y).length ∧ b.take (Lib.uvarint y).length = Lib.uvarint y ∧ (0 < k → 0 < y)
  | [], k, acc, _, h => by rw [Dec.getFrom_nil] at h; simp at h
  | c :: b, k, acc, hk, h => by
    by_cases h10 : 10 ≤ k
    · rw [Dec.getFrom_ten k acc _ h10] at h; simp at h
    by_cases hc : 128 ≤ c.toNat
    · rw [Dec.getFrom_more (by omega) hc] at h ⊢
      obtain ⟨y, h1, h2, h3, h4⟩ := getFrom_back b (k + 1) _ (by omega) h
      have hy := h4 (by omega)
      have hlt := c.toNat_lt
      have hpow : 2 ^ (7 * (k + 1)) = 128 * 2 ^ (7 * k) := by rw [show 7 * (k + 1) = 7 * k + 7 by omega, Nat.pow_add, Nat.mul_comm]
      have e1 : (c.toNat % 128 + 128 * y) / 128 = y := by omega
      have e2 : (c.toNat % 128 + 128 * y) % 128 + 128 = c.toNat := by omega
      have e3 : c.toNat.toUInt8 = c := by simp [Nat.toUInt8]
      have eu : Lib.uvarint (c.toNat % 128 + 128 * y) = c :: Lib.uvarint y := by rw [Lib.uvarint_big (by omega), e1, e2, e3]
      refine ⟨c.toNat % 128 + 128 * y, ?_, ?_, ?_, by omega⟩
      · rw [h1, hpow, Nat.add_mul, Nat.mul_assoc 128, ← Nat.mul_assoc y, Nat.mul_comm y 128, Nat.mul_assoc 128]
        omega
      · rw [h2, eu, List.length_cons]
        omega
      · rw [eu, List.length_cons, List.take_succ_cons, h3]
    · by_cases hbad : (0 < k ∧ c.toNat = 0) ∨ (k = 9 ∧ 1 < c.toNat)
      · rw [Dec.getFrom_bad (by omega) (by omega) hbad] at h; simp at h
      · rw [Dec.getFrom_last (by omega) (by omega) hbad] at h ⊢
        have e3 : c.toNat.toUInt8 = c := by simp [Nat.toUInt8]
        have eu : Lib.uvarint c.toNat = [c] := by rw [Lib.uvarint_small (by omega), e3]
        exact ⟨c.toNat, rfl, by rw [eu]; rfl, by rw [eu]; rfl, by omega⟩
theorem getN_back {b : List UInt8} {n s : Nat} (h : Dec.getN b = (n, s)) (hs : s ≠ 0) : b.take s = Lib.uvarint n ∧ s = (Lib.uvarint n).length := by
  have h0 : (Dec.getFrom 0 0 b).2 ≠ 0 := by show (Dec.getN b).2 ≠ 0; rw [h]; exact hs
  obtain ⟨y, h1, h2, h3, _⟩ := getFrom_back b 0 0 (by omega) h0
  have h1' : (Dec.getN b).1 = 0 + y * 2 ^ (7 * 0) := h1
  have h2' : (Dec.getN b).2 = 0 + (Lib.uvarint y).length := h2
  rw [h] at h1' h2'
  simp at h1' h2'
  subst h1'
  exact ⟨by rw [h2']; exact h3, h2'⟩
/-! ### Numbers one by one -/

namespace Rc
theorem num_made {d : List UInt8} (hd : d.length < 18446744073709551616) (j : List UInt8) : num (made d ++ j) = d.length ∧ siz (made d ++ j) = (Lib.uvarint d.length).length := by
  have e : (made d ++ j).drop 1 = Lib.uvarint d.length ++ (sum4 (head d.length ++ d) ++ d ++ j) := by
    simp [made, head]
  unfold num siz
  rw [e, getN_put hd]
  exact ⟨rfl, rfl⟩
theorem whole_made {d : List UInt8} (hf : fits d) (j : List UInt8) : whole (made d ++ j) := by
  have hd := hf.2
  obtain ⟨h1, h2⟩ := num_made (d := d) (by omega) j
  refine ⟨by simp [made, head], ?_, by omega, ?_⟩
  · rw [h1]
    exact fun e => hf.1 (List.eq_nil_of_length_eq_zero e)
  · rw [h1, h2, List.length_append, made_length]
    omega
theorem get_made {d : List UInt8} (hf : fits d) (j : List UInt8) : get (made d ++ j) = (d, (made d).length) := by
  have hd := hf.2
  obtain ⟨h1, h2⟩ := num_made (d := d) (by omega) j
  have hhl := head_length d.length
  have hs := sum4_length (head d.length ++ d)
  have e1 : (made d ++ j).take (1 + (Lib.uvarint d.length).length) = head d.length := by
    rw [made, List.append_assoc, List.take_left' (by omega)]
  have e2 : (made d ++ j).drop (1 + (Lib.uvarint d.length).length) = sum4 (head d.length ++ d) ++ (d ++ j) := by
    rw [made, List.append_assoc, List.drop_left' (by omega), List.append_assoc]
  have e3 : data (made d ++ j) = d := by
    unfold data
    rw [h1, h2, ← List.drop_drop, e2, List.drop_left' (by omega), List.take_left' rfl]
  rw [get_pos (whole_made hf j) (by rw [e3, h2, e1, e2, List.take_left' (by omega)]), e3, h1, h2, made_length]
theorem made_ne (d : List UInt8) : (made d).length ≠ 0 := by
  rw [made_length]
  omega
end Rc
end Go.Proofs.Ytkohlhnkaklnpaa

/-
  Records that are cut off, or of which a byte is turned; several, one behind the other. No program in this text.
-/
namespace Go.Proofs.Ytkohlhnkaklnpaa
namespace Rc
/-- What is told is written so. -/
theorem get_back {b : List UInt8} (h : (get b).2 ≠ 0) : fits (get b).1 ∧ (get b).2 = (made (get b).1).length ∧ b = made (get b).1 ++ b.drop (get b).2 := by
  obtain ⟨hw, hs, e⟩ := get_whole h
  have hdl := data_length hw
  have h0 := siz_pos hw.2.1
  have hall := hw.2.2.2
  obtain ⟨m, t, rfl⟩ : ∃ m t, b = m :: t := by
    cases b with
    | nil => simp at hall
    | cons m t => exact ⟨m, t, rfl⟩
  have hm : m = 130 := by
    have := hw.1
    simpa using this
  subst hm
  obtain ⟨u1, u2⟩ := getN_back (b := t) (n := (Dec.getN t).1) (s := (Dec.getN t).2) rfl h0
  have u1' : t.take (siz (130 :: t)) = Lib.uvarint (num (130 :: t)) := u1
  have u2' : siz (130 :: t) = (Lib.uvarint (num (130 :: t))).length := u2
  have hh : ((130 : UInt8) :: t).take (1 + siz (130 :: t)) = head (data (130 :: t)).length := by
    rw [hdl, Nat.add_comm, List.take_succ_cons, u1']
    rfl
  rw [e]
  have hml : 1 + siz (130 :: t) + 4 + num (130 :: t) = (made (data (130 :: t))).length := by
    rw [made_length, hdl, ← u2']
  refine ⟨⟨fun e0 => hw.2.1 (by rw [← hdl, show data (130 :: t) = [] from e0]; rfl), by rw [hdl]; exact hw.2.2.1⟩, hml, ?_⟩
  show ((130 : UInt8) :: t) = made (data (130 :: t)) ++ ((130 : UInt8) :: t).drop (1 + siz (130 :: t) + 4 + num (130 :: t))
  have a1 := List.take_append_drop (1 + siz (130 :: t)) ((130 : UInt8) :: t)
  have a2 := List.take_append_drop 4 (((130 : UInt8) :: t).drop (1 + siz (130 :: t)))
  have a3 := List.take_append_drop (num (130 :: t)) (((130 : UInt8) :: t).drop (1 + siz (130 :: t) + 4))
  rw [List.drop_drop] at a2
  rw [List.drop_drop] at a3
  have hd : (((130 : UInt8) :: t).drop (1 + siz (130 :: t) + 4)).take (num (130 :: t)) = data (130 :: t) := rfl
  rw [hd] at a3
  rw [← hs, hh, ← a3] at a2
  rw [hh, ← a2] at a1
  unfold made
  rw [List.append_assoc, List.append_assoc]
  exact a1.symm
/-- Of a record that is cut off nothing is told. -/
theorem get_cut {d : List UInt8} (hf : fits d) {j : Nat} (hj : j < (made d).length) : (get ((made d).take j)).2 = 0 := by
  by_cases h : (get ((made d).take j)).2 = 0
  · exact h
  · exfalso
    obtain ⟨f1, f2, f3⟩ := get_back h
    have hle := get_le ((made d).take j)
    rw [List.length_take] at hle
    have e : made d = made (get ((made d).take j)).1 ++ (((made d).take j).drop (get ((made d).take j)).2 ++ (made d).drop j) := by
      rw [← List.append_assoc, ← f3, List.take_append_drop]
    have g1 := get_made hf []
    rw [List.append_nil, e, get_made f1] at g1
    have g2 := congrArg Prod.snd g1
    simp only at g2
    rw [← e] at g2
    omega
/-- Of a record of which a byte is turned its data is not told. -/
theorem get_turned {d r : List UInt8} (hl : r.length = (made d).length) (hne : r ≠ made d) (h : (get r).2 ≠ 0) : (get r).1 ≠ d := by
  intro e
  obtain ⟨_, f2, f3⟩ := get_back h
  rw [e] at f2 f3
  rw [f2, ← hl, List.drop_length, List.append_nil] at f3
  exact hne f3
/-- The first record is told, then what stands behind it. -/
theorem told_made {d : List UInt8} (hf : fits d) {r : List UInt8} {ds : List (List UInt8)} {k : Nat} (h : Told (made d ++ r) ds k) (he : (get ((made d ++ r).drop k)).2 = 0) :
    ∃ ds' k', ds = d :: ds' ∧ k = (made d).length + k' ∧ Told r ds' k' ∧ (get (r.drop k')).2 = 0 := by
  have hg := get_made hf r
  cases ds with
  | nil =>
    obtain rfl : k = 0 := h
    rw [List.drop_zero, hg] at he
    exact absurd he (made_ne d)
  | cons e ds =>
    obtain ⟨h1, h2, h3, h4⟩ := h
    rw [hg] at h2 h3 h4
    have h3' : (made d).length ≤ k := h3
    rw [List.drop_left] at h4
    refine ⟨ds, k - (made d).length, by rw [h2], by omega, h4, ?_⟩
    rw [show k = (made d).length + (k - (made d).length) by omega, ← List.drop_drop, List.drop_left] at he
    exact he
theorem told_stop {r : List UInt8} {ds : List (List UInt8)} {k : Nat} (hz : (get r).2 = 0) (h : Told r ds k) : ds = [] ∧ k = 0 := by
  cases ds with
  | nil => exact ⟨rfl, h⟩
  | cons d ds => exact absurd hz h.1
theorem told_first {r d : List UInt8} {ds : List (List UInt8)} {k : Nat} (h : Told r (d :: ds) k) : (get r).2 ≠ 0 ∧ d = (get r).1 := ⟨h.1, h.2.1⟩
end Rc
end Go.Proofs.Ytkohlhnkaklnpaa

/-
  What RecordTorn's walks share.
-/
namespace Go.Proofs.Ytkohlhnkaklnpaa
open Go.RowKit
/-- Ends of a test on a length. -/
theorem fit_tests {a : List UInt8} (h : Rc.fits a) : ((a.length : Int) == 0) = false ∧ ¬ (a.length : Int) > 100000 := by
  have h1 : a.length ≠ 0 := fun e => h.1 (List.eq_nil_of_length_eq_zero e)
  have h2 := h.2
  exact ⟨by rw [beq_eq_false_iff_ne]; omega, by omega⟩
theorem made_small {d : List UInt8} (h : Rc.fits d) : (Rc.made d).length ≤ 200000 := by
  have h1 := h.2
  have h2 := Lib.uvarint_length64 (x := d.length) (by omega)
  rw [Rc.made_length]
  omega
theorem below_drawn (w : World) : ∀ n, Below w.heap.size w (w.drewN n)
  | 0 => Below.refl _ _
  | n + 1 => by
    have := below_drawn w n
    simpa using this.drew
/-- What has been scanned, and is not nothing. -/
theorem Scanned.some {w : World} {B : Nat} {v : Value} {ds : List (List UInt8)} (h : Scanned w B v ds) (h0 : ds ≠ []) :
    ∃ g c, v = .slice (some ⟨g, 0, none⟩) ds.length c ∧ ds.length ≤ c ∧ c ≤ maxLen ∧ B ≤ g ∧ ∀ i (hi : i < ds.length), ∃ ao n k, w.cell? ⟨g, i, none⟩ = some (.slice ao n k) ∧ Piece w B (.slice ao n k) ds[i] := by
  obtain ⟨vs, h1, h2, _⟩ := h
  rcases h1.2 with ⟨rfl, hz⟩ | ⟨g, cap, cur, rfl, hb, hg, hnc, hcm, hcs, htake⟩
  · exact absurd (List.eq_nil_of_length_eq_zero hz) h0
  · refine ⟨g, cap, rfl, hnc, hcm, hb, fun i hi => ?_⟩
    have hv : i < vs.length := by rw [h2.1]; exact hi
    obtain ⟨hp, _⟩ := h2.2.1 i hv hi
    obtain ⟨ao, n, k, e⟩ := hp.shape
    rw [e] at hp
    refine ⟨ao, n, k, ?_, hp⟩
    rw [h1.cellAt i (by omega), List.getElem?_eq_getElem hv, e]
theorem turned_byte (y : UInt8) {q : Nat} (hq : q < 255) : ∃ x : UInt8, x ≠ y ∧ IntKind.u8.wrap (IntKind.i64.wrap (IntKind.i64.wrap (IntKind.i64.wrap (y.toNat : Int) + 1) + (q : Int))) = ((x.toNat : Nat) : Int) := by
  have hy := y.toNat_lt
  refine ⟨UInt8.ofNat (y.toNat + 1 + q), fun e => ?_, ?_⟩
  · have := congrArg UInt8.toNat e
    rw [UInt8.toNat_ofNat'] at this
    omega
  · rw [UInt8.toNat_ofNat', IntKind.wrap_u8, IntKind.wrap_i64, IntKind.wrap_i64, IntKind.wrap_i64]
    omega
theorem turned_row {w w5 : World} {B g c n j q : Nat} {l : List UInt8} (h : w.ownsRow B 5 1 (.slice (some ⟨g, 0, none⟩) n c) n (Lib.byteCells l)) (y : UInt8) (hq : q < 255) (hb : Below B w5 w) :
    ∃ x : UInt8, x ≠ y ∧ Hid ((w.setCell ⟨g, j, none⟩ (.int .u8 (IntKind.u8.wrap (IntKind.i64.wrap (IntKind.i64.wrap (IntKind.i64.wrap (y.toNat : Int) + 1) + (q : Int)))))).drew.ownsRow B 5 1 (.slice (some ⟨g, 0, none⟩) n c) n (Lib.byteCells (l.set j x))) ∧
      Hid (Below B w5 (w.setCell ⟨g, j, none⟩ (.int .u8 (IntKind.u8.wrap (IntKind.i64.wrap (IntKind.i64.wrap (IntKind.i64.wrap (y.toNat : Int) + 1) + (q : Int)))))).drew) := by
  obtain ⟨x, hx, e⟩ := turned_byte y hq
  rw [e]
  refine ⟨x, hx, ?_, ((hb.setCell ((h.lt g rfl).1) _).drew)⟩
  have := (h.stored j (.int .u8 x.toNat)).1
  rw [show (Lib.byteCells l).set j (.int .u8 x.toNat) = Lib.byteCells (l.set j x) by simp [Lib.byteCells, List.map_set]] at this
  exact this
theorem conv_drawn {w : World} {v : Value} {l : List UInt8} (h : Bs w v l) : ∀ m, (convert 22 9 v).run Try.prog (w.drewN m) = .ok (.string ⟨l.toArray⟩) (w.drewN m) :=
  fun m => conv_bs (h.below (below_drawn w m) (Nat.le_refl _))
end Go.Proofs.Ytkohlhnkaklnpaa
