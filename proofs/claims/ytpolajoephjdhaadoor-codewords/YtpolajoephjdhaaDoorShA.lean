/-
  The document's examples, as plain values.
-/
import Derived.Test.YtpolajoephjdhaaDoorDeI
namespace Go.Proofs.YtpolajoephjdhaaDoor
open Go.RowKit
set_option maxRecDepth 100000
theorem it_one {n : Nat} (h : n < 10) : Lib.itoa (n : Int) = [UInt8.ofNat (48 + n)] := by
  rw [Lib.itoa_nonneg, Lib.decDigits, dif_pos h]
theorem it_neg {n : Nat} (h : n < 10) (h0 : 1 ≤ n) : Lib.itoa (-(n : Int)) = [45, UInt8.ofNat (48 + n)] := by
  rw [Lib.itoa_neg n h0, Lib.decDigits, dif_pos h]
def exR : Rt := ⟨⟨#[102]⟩, 1, 2, [⟨2, 0⟩, ⟨1, -3⟩, ⟨6, 0⟩, ⟨22, 0⟩]⟩
def exT : List UInt8 := [102, 32, 49, 32, 50, 10, 108, 111, 97, 100, 32, 48, 10, 112, 117, 115, 104, 32, 45, 51, 10, 97, 100, 100, 10, 114, 101, 116, 10]
theorem i0 : Lib.itoa 0 = [48] := it_one (n := 0) (by omega)
theorem i1 : Lib.itoa 1 = [49] := it_one (n := 1) (by omega)
theorem i2 : Lib.itoa 2 = [50] := it_one (n := 2) (by omega)
theorem i7 : Lib.itoa 7 = [55] := it_one (n := 7) (by omega)
theorem im3 : Lib.itoa (-3) = [45, 51] := it_neg (n := 3) (by omega) (by omega)
theorem exHead : headL ⟨#[102]⟩ 1 2 = [102, 32, 49, 32, 50, 10] := by
  unfold headL
  rw [headB_list, i1, i2]
  rfl
theorem exL : listL exR = exT := by
  have h : lstOk exR = true := by decide +kernel
  unfold listL
  rw [if_pos h]
  show headL ⟨#[102]⟩ 1 2 ++ codeL [⟨2, 0⟩, ⟨1, -3⟩, ⟨6, 0⟩, ⟨22, 0⟩] = exT
  rw [exHead]
  unfold codeL lineL
  simp only [List.flatMap_cons, List.flatMap_nil, lineB_list]
  rw [show numb (opk 2) = true from rfl, show numb (opk 1) = true from rfl, show numb (opk 6) = false from rfl, show numb (opk 22) = false from rfl]
  simp only [if_true, Bool.false_eq_true, if_false, i0, im3]
  rfl
def exR2 : Rt := ⟨⟨#[102]⟩, 1, 2, [⟨1, 7⟩]⟩
def exT2 : List UInt8 := [102, 32, 49, 32, 50, 10, 112, 117, 115, 104, 32, 55, 10]
theorem exL2 : listL exR2 = exT2 := by
  have h : lstOk exR2 = true := by decide +kernel
  unfold listL
  rw [if_pos h]
  show headL ⟨#[102]⟩ 1 2 ++ codeL [⟨1, 7⟩] = exT2
  rw [exHead]
  unfold codeL lineL
  simp only [List.flatMap_cons, List.flatMap_nil, lineB_list]
  rw [show numb (opk 1) = true from rfl]
  simp only [if_true, i7]
  rfl
theorem exRd2 : readF exT2 = .inr exR2 := by
  rw [← exL2]
  refine read_list (by decide +kernel) ⟨by decide, by decide⟩ ⟨by decide, by decide⟩ (fun i hi => ?_)
  have : i = ⟨1, 7⟩ := by simpa [exR2] using hi
  subst this
  exact ⟨by decide, by decide⟩
def exT3 : List UInt8 := [102, 32, 49, 32, 50, 10, 108, 111, 97, 100, 32, 48, 48, 10]
theorem exHd : headRd [102, 32, 49, 32, 50] = true := by
  have h := (head_back (r := ⟨⟨#[102]⟩, 1, 2, []⟩) (by decide +kernel) ⟨by decide, by decide⟩ ⟨by decide, by decide⟩).2.1
  rw [headB_list, i1, i2] at h
  exact h
theorem exIns : insRd [108, 111, 97, 100, 32, 48, 48] = false := by
  have e : insOf [108, 111, 97, 100, 32, 48, 48] = ⟨2, 0⟩ := by rfl
  unfold insRd
  rw [e]
  have : ¬ lineB ⟨2, 0⟩ = bs [108, 111, 97, 100, 32, 48, 48] := fun h => by
    have h2 := congrArg (fun x : ByteArray => x.data.toList) h
    simp only [lineB_list, toList_bs] at h2
    rw [show numb (opk 2) = true from rfl, i0] at h2
    simp at h2
    exact absurd h2 (by decide)
  simp [this]
theorem exRd3 : readF exT3 = .inl 6 := by
  unfold readF
  rw [show bef 10 exT3 = [102, 32, 49, 32, 50] from rfl, show hasC 10 exT3 = true from rfl, exHd, show aft 10 exT3 = [108, 111, 97, 100, 32, 48, 48, 10] from rfl]
  have h : rdC exT3.length exT3.length 0 [108, 111, 97, 100, 32, 48, 48, 10] = .inl (exT3.length - 8) := rdC_bad (by decide) (by simp) (.inr (.inl exIns))
  rw [h]
  rfl
theorem exB : pgBy ⟨[], []⟩ = [0, 0] := by
  show uv 0 ++ [] ++ uv 0 ++ [] = [0, 0]
  rw [show uv 0 = [0] from Lib.uvarint_small (by omega)]
  rfl
theorem exM : mayOk ⟨[], []⟩ = true := by rfl
theorem exD1 : decF [0, 0, 0] = .inl 2 := by rfl
theorem exD2 : decF [0, 1, 1, 102, 0, 0, 1, 22] = .inr ⟨[], [⟨⟨#[102]⟩, 0, 0, [⟨22, 0⟩]⟩]⟩ := by rfl
theorem exE : takE [] ⟨26, 26⟩ = 2 ∧ putE ⟨26, 26⟩ = 0 := ⟨by rfl, by rfl⟩
theorem exN : wd (opk 1) = ⟨#[112, 117, 115, 104]⟩ := by rfl
theorem exO : numOf ⟨#[100, 114, 111, 112]⟩ = 39 := by decide +kernel
end Go.Proofs.YtpolajoephjdhaaDoor
