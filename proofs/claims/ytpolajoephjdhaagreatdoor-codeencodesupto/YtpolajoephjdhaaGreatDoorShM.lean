import Derived.Test.YtpolajoephjdhaaGreatDoorDeI
/-
  The document's examples, as plain values.
-/
namespace Go.Proofs.YtpolajoephjdhaaGreatDoor
open Go.RowKit
set_option maxRecDepth 100000
theorem it_one {n : Nat} (h : n < 10) : Lib.itoa (n : Int) = [UInt8.ofNat (48 + n)] := by
  rw [Lib.itoa_nonneg, Lib.decDigits, dif_pos h]
theorem it_neg {n : Nat} (h : n < 10) (h0 : 1 ≤ n) : Lib.itoa (-(n : Int)) = [45, UInt8.ofNat (48 + n)] := by
  rw [Lib.itoa_neg n h0, Lib.decDigits, dif_pos h]
def exR : Rt := ⟨⟨#[102]⟩, 1, 2, [⟨2, 0⟩, ⟨1, -3⟩, ⟨6, 0⟩, ⟨22, 0⟩]⟩
def exT : List UInt8 := [102, 32, 49, 32, 50, 10, 108, 111, 97, 100, 32, 48, 10, 112, 117, 115, 104, 32, 45, 51, 10, 97, 100, 100, 10, 114, 101, 116, 10]
theorem i0 : Lib.itoa 0 = [48] := it_one (n := 0) (by omega)
theorem i1 : Lib.itoa 1 = [49] := it_one (n := 1) (by omega)
theorem i2 : Lib.itoa 2 = [50] := it_one (n := 2) (by omega)
theorem i7 : Lib.itoa 7 = [55] := it_one (n := 7) (by omega)
theorem im3 : Lib.itoa (-3) = [45, 51] := it_neg (n := 3) (by omega) (by omega)
theorem exHead : headL ⟨#[102]⟩ 1 2 = [102, 32, 49, 32, 50, 10] := by
  unfold headL
  rw [headB_list, i1, i2]
  rfl
theorem exL : listL exR = exT := by
  have h : lstOk exR = true := by decide +kernel
  unfold listL
  rw [if_pos h]
  show headL ⟨#[102]⟩ 1 2 ++ codeL [⟨2, 0⟩, ⟨1, -3⟩, ⟨6, 0⟩, ⟨22, 0⟩] = exT
  rw [exHead]
  unfold codeL lineL
  simp only [List.flatMap_cons, List.flatMap_nil, lineB_list]
  rw [show numb (opk 2) = true from rfl, show numb (opk 1) = true from rfl, show numb (opk 6) = false from rfl, show numb (opk 22) = false from rfl]
  simp only [if_true, Bool.false_eq_true, if_false, i0, im3]
  rfl
def exR2 : Rt := ⟨⟨#[102]⟩, 1, 2, [⟨1, 7⟩]⟩
def exT2 : List UInt8 := [102, 32, 49, 32, 50, 10, 112, 117, 115, 104, 32, 55, 10]
theorem exL2 : listL exR2 = exT2 := by
  have h : lstOk exR2 = true := by decide +kernel
  unfold listL
  rw [if_pos h]
  show headL ⟨#[102]⟩ 1 2 ++ codeL [⟨1, 7⟩] = exT2
  rw [exHead]
  unfold codeL lineL
  simp only [List.flatMap_cons, List.flatMap_nil, lineB_list]
  rw [show numb (opk 1) = true from rfl]
  simp only [if_true, i7]
  rfl
theorem exRd2 : readF exT2 = .inr exR2 := by
  rw [← exL2]
  refine read_list (by decide +kernel) ⟨by decide, by decide⟩ ⟨by decide, by decide⟩ (fun i hi => ?_)
  have : i = ⟨1, 7⟩ := by simpa [exR2] using hi
  subst this
  exact ⟨by decide, by decide⟩
def exT3 : List UInt8 := [102, 32, 49, 32, 50, 10, 108, 111, 97, 100, 32, 48, 48, 10]
theorem exHd : headRd [102, 32, 49, 32, 50] = true := by
  have h := (head_back (r := ⟨⟨#[102]⟩, 1, 2, []⟩) (by decide +kernel) ⟨by decide, by decide⟩ ⟨by decide, by decide⟩).2.1
  rw [headB_list, i1, i2] at h
  exact h
theorem exIns : insRd [108, 111, 97, 100, 32, 48, 48] = false := by
  have e : insOf [108, 111, 97, 100, 32, 48, 48] = ⟨2, 0⟩ := by rfl
  unfold insRd
  rw [e]
  have : ¬ lineB ⟨2, 0⟩ = bs [108, 111, 97, 100, 32, 48, 48] := fun h => by
    have h2 := congrArg (fun x : ByteArray => x.data.toList) h
    simp only [lineB_list, toList_bs] at h2
    rw [show numb (opk 2) = true from rfl, i0] at h2
    simp at h2
    exact absurd h2 (by decide)
  simp [this]
theorem exRd3 : readF exT3 = .inl 6 := by
  unfold readF
  rw [show bef 10 exT3 = [102, 32, 49, 32, 50] from rfl, show hasC 10 exT3 = true from rfl, exHd, show aft 10 exT3 = [108, 111, 97, 100, 32, 48, 48, 10] from rfl]
  have h : rdC exT3.length exT3.length 0 [108, 111, 97, 100, 32, 48, 48, 10] = .inl (exT3.length - 8) := rdC_bad (by decide) (by simp) (.inr (.inl exIns))
  rw [h]
  rfl
theorem exB : pgBy ⟨[], []⟩ = [0, 0] := by
  show uv 0 ++ [] ++ uv 0 ++ [] = [0, 0]
  rw [show uv 0 = [0] from Lib.uvarint_small (by omega)]
  rfl
theorem exM : mayOk ⟨[], []⟩ = true := by rfl
theorem exD1 : decF [0, 0, 0] = .inl 2 := by rfl
theorem exD2 : decF [0, 1, 1, 102, 0, 0, 1, 22] = .inr ⟨[], [⟨⟨#[102]⟩, 0, 0, [⟨22, 0⟩]⟩]⟩ := by rfl
theorem exE : takE [] ⟨26, 26⟩ = 2 ∧ putE ⟨26, 26⟩ = 0 := ⟨by rfl, by rfl⟩
theorem exN : wd (opk 1) = ⟨#[112, 117, 115, 104]⟩ := by rfl
theorem exO : numOf ⟨#[100, 114, 111, 112]⟩ = 39 := by decide +kernel
end Go.Proofs.YtpolajoephjdhaaGreatDoor

/-
  The law's fault.
-/
namespace Go.Proofs.YtpolajoephjdhaaGreatDoor
open Go.RowKit
set_option maxRecDepth 100000
theorem ta_is (p : Value) (w : World) : (Instr.typeAssert (.iface 74 p) 29 74 true).run Tryz.prog w = .ok (.tuple #[p, .bool true]) w := by
  simp [Instr.typeAssert, run_underlying Tryz.underlying74, go_sem, Result.andThen]
theorem fault_none (W : World) : Calls Tryz.prog 8 #[.nilIface] W fun e W' => e = .returned (.tuple #[.int .i64 0, .int .i64 0, .bool true]) ∧ W' = W := by
  go_enter Tryz.func8, Tryz.ntmps8
  go_wp2_with fail
  go_ret3
  exact ⟨rfl, rfl⟩
set_option maxHeartbeats 2000000 in
theorem fault_some {W : World} {g a er : Nat} (hg : W.heap[g]? = some (.cells #[.int .i64 (a : Int), .int .i64 (er : Int)] 76 (0, 0))) (her : er ≠ 0) : Calls Tryz.prog 8 #[.iface 74 (.pointer (some ⟨g, 0, none⟩))] W fun e W' => e = .returned (.tuple #[.int .i64 (a : Int), .int .i64 (er : Int), .bool true]) ∧ Below W.heap.size W W' := by
  have ta := ta_is (.pointer (some ⟨g, 0, none⟩))
  have c0 : W.cell? ⟨g, 0, none⟩ = some (.int .i64 (a : Int)) := by rw [cell_of_row W g _ _ 76 (0, 0) hg]; rfl
  have c1 : W.cell? ⟨g, 1, none⟩ = some (.int .i64 (er : Int)) := by rw [cell_of_row W g _ _ 76 (0, 0) hg]; rfl
  have t2 : Hid (((er : Int) != 0) = true) := by unfold Hid; rw [bne_iff_ne]; omega
  clear hg
  go_enter Tryz.func8, Tryz.ntmps8
  go_upto_region 6 with fail
  go_region
  all_goals go_wp2_with fail
  all_goals go_ret3
  all_goals (refine ⟨?_, below_drew W⟩; show Ending.returned (.tuple #[.int .i64 (a : Int), .int .i64 (er : Int), .bool ((er : Int) != 0)]) = _; rw [t2.out])
end Go.Proofs.YtpolajoephjdhaaGreatDoor

/-
  The head of all laws.
-/
namespace Go.Proofs.YtpolajoephjdhaaGreatDoor
open Go.RowKit
set_option maxRecDepth 1000000
theorem list_ex {W : World} {g : Nat} (hg : W.heap[g]? = some (.cells #[.int .i64 2, .int .i64 0, .int .i64 1, .int .i64 (-3), .int .i64 6, .int .i64 0, .int .i64 22, .int .i64 0] 56 (0, 0))) (hk : Kd W) : Calls Tryz.prog 17 #[.agg #[.string ⟨#[102]⟩, .int .i64 1, .int .i64 2, .slice (some ⟨g, 0, none⟩) 4 4]] W fun e w' => e = .returned (.string ⟨#[102, 32, 49, 32, 50, 10, 108, 111, 97, 100, 32, 48, 10, 112, 117, 115, 104, 32, 45, 51, 10, 97, 100, 100, 10, 114, 101, 116, 10]⟩) ∧ Below W.heap.size W w' := by
  have hc : ∀ j (hj : j < 8), W.cell? ⟨g, j, none⟩ = (#[Value.int .i64 2, .int .i64 0, .int .i64 1, .int .i64 (-3), .int .i64 6, .int .i64 0, .int .i64 22, .int .i64 0] : Array Value)[j]? := fun j hj => by rw [cell_of_row W g _ _ 56 (0, 0) hg]
  have h := list_any exR (Q := fun _ => True) (vc := .slice (some ⟨g, 0, none⟩) 4 4) (W := W) ⟨_, _, rfl, by decide, by decide, fun _ => ⟨g, 0, rfl, trivial, fun i hi => ?_⟩⟩ ⟨by decide, by decide⟩ ⟨by decide, by decide⟩ hk
  · have e : listB exR = ⟨#[102, 32, 49, 32, 50, 10, 108, 111, 97, 100, 32, 48, 10, 112, 117, 115, 104, 32, 45, 51, 10, 97, 100, 100, 10, 114, 101, 116, 10]⟩ := by
      unfold listB
      rw [exL]
      rfl
    rw [e] at h
    exact h
  · match i, hi with
    | 0, _ => exact ⟨(⟨by decide, by decide⟩ : I6 2), (⟨by decide, by decide⟩ : I6 0), hc 0 (by decide), hc 1 (by decide)⟩
    | 1, _ => exact ⟨(⟨by decide, by decide⟩ : I6 1), (⟨by decide, by decide⟩ : I6 (-3)), hc 2 (by decide), hc 3 (by decide)⟩
    | 2, _ => exact ⟨(⟨by decide, by decide⟩ : I6 6), (⟨by decide, by decide⟩ : I6 0), hc 4 (by decide), hc 5 (by decide)⟩
    | 3, _ => exact ⟨(⟨by decide, by decide⟩ : I6 22), (⟨by decide, by decide⟩ : I6 0), hc 6 (by decide), hc 7 (by decide)⟩
    | i + 4, h => exact absurd h (by simp [exR])
theorem own_some {w : World} {B e s n : Nat} {v : Value} {xs : List Value} (h : w.ownsRow B e s v n xs) (h0 : 0 < n) : ∃ g c, v = .slice (some ⟨g, 0, none⟩) n c ∧ ∀ j, j < n * s → w.cell? ⟨g, j, none⟩ = xs[j]? := by
  have h' := h
  rcases h.2 with ⟨rfl, rfl⟩ | ⟨g, cap, cur, rfl, _⟩
  · omega
  · exact ⟨g, cap, rfl, fun j hj => h'.cellAt j hj⟩
theorem read_ex2 {W : World} (hk : Kd W) : Calls Tryz.prog 19 #[.string ⟨#[102, 32, 49, 32, 50, 10, 112, 117, 115, 104, 32, 55, 10]⟩] W fun e w' => Below W.heap.size W w' ∧ ∃ g c, e = .returned (.tuple #[.agg #[.string ⟨#[102]⟩, .int .i64 1, .int .i64 2, .slice (some ⟨g, 0, none⟩) 1 c], .nilIface]) ∧ w'.cell? ⟨g, 1, none⟩ = some (.int .i64 7) := by
  have h := read_any ⟨#[102, 32, 49, 32, 50, 10, 112, 117, 115, 104, 32, 55, 10]⟩ (by decide) W hk
  have e : readF (⟨#[102, 32, 49, 32, 50, 10, 112, 117, 115, 104, 32, 55, 10]⟩ : ByteArray).data.toList = .inr exR2 := exRd2
  rw [e] at h
  refine h.mono ?_
  rintro e w' ⟨h1, vc, rfl, h2⟩
  obtain ⟨g, c, rfl, h3⟩ := own_some h2 (by decide)
  exact ⟨h1, g, c, rfl, h3 1 (by decide)⟩
theorem read_ex3 {W : World} (hk : Kd W) : Calls Tryz.prog 19 #[.string ⟨#[102, 32, 49, 32, 50, 10, 108, 111, 97, 100, 32, 48, 48, 10]⟩] W fun e w' => Below W.heap.size W w' ∧ ∃ N, e = .returned (.tuple #[.agg #[.string ⟨#[]⟩, .int .i64 0, .int .i64 0, .slice none 0 0], .iface 74 (.pointer (some ⟨N, 0, none⟩))]) ∧ w'.heap[N]? = some (.cells #[.int .i64 6, .int .i64 130] 76 (0, 0)) := by
  have h := read_any ⟨#[102, 32, 49, 32, 50, 10, 108, 111, 97, 100, 32, 48, 48, 10]⟩ (by decide) W hk
  have e : readF (⟨#[102, 32, 49, 32, 50, 10, 108, 111, 97, 100, 32, 48, 48, 10]⟩ : ByteArray).data.toList = .inl 6 := exRd3
  rw [e] at h
  refine h.mono ?_
  rintro e w' ⟨h1, N, rfl, _, h2⟩
  exact ⟨h1, N, rfl, h2⟩
theorem eff_ex {W : World} (hk : Kd W) : Calls Tryz.prog 23 #[.agg #[.int .i64 26, .int .i64 26], .slice none 0 0] W fun e w' => e = .returned (.tuple #[.int .i64 2, .int .i64 0]) ∧ Below W.heap.size W w' := by
  have h := effect_any (Q := fun _ => True) (W := W) (v := .slice none 0 0) (fs := []) ⟨none, 0, rfl, Nat.le_refl _, Nat.zero_le _, fun h => absurd h (by simp)⟩ hk.1 ⟨26, 26⟩
  rw [exE.1, exE.2] at h
  exact h
theorem enc_ex {W : World} (hk : Kd W) : Calls Tryz.prog 14 #[.agg #[.slice none 0 0, .slice none 0 0]] W fun e w' => Below W.heap.size W w' ∧ ∃ v, e = .returned (.tuple #[v, .int .i64 0]) ∧ Bs w' v [0, 0] := by
  have h := encode_any (Q := fun _ => True) (W := W) (vs := .slice none 0 0) (vf := .slice none 0 0) ⟨[], []⟩ ⟨⟨none, 0, rfl, Nat.le_refl _, Nat.zero_le _, fun h => absurd h (by simp)⟩, ⟨none, 0, rfl, Nat.le_refl _, Nat.zero_le _, fun h => absurd h (by simp)⟩⟩ hk.1
  refine h.mono ?_
  rintro e w' ⟨h1, h2⟩
  rw [if_pos exM] at h2
  obtain ⟨v, rfl, h3⟩ := h2
  have h4 := own_bs h3
  rw [exB] at h4
  exact ⟨h1, v, rfl, h4⟩
theorem dec_ex1 {W : World} {g : Nat} (hg : W.heap[g]? = some (.cells #[.int .u8 0, .int .u8 0, .int .u8 0] 5 (0, 0))) (hk : Kd W) : Calls Tryz.prog 7 #[.slice (some ⟨g, 0, none⟩) 3 3] W fun e w' => Below W.heap.size W w' ∧ ∃ N, e = .returned (.tuple #[.agg #[.slice none 0 0, .slice none 0 0], .iface 74 (.pointer (some ⟨N, 0, none⟩))]) ∧ w'.heap[N]? = some (.cells #[.int .i64 2, .int .i64 130] 76 (0, 0)) := by
  have hb : Bs W (.slice (some ⟨g, 0, none⟩) 3 3) [0, 0, 0] := Bs.row (l := [0, 0, 0]) (by decide) (by decide) (fun j hj => by
    rw [Nat.zero_add, cell_of_row W g _ _ 5 (0, 0) hg]
    match j, hj with
    | 0, _ => rfl
    | 1, _ => rfl
    | 2, _ => rfl)
  have h := decode_any [0, 0, 0] hb (by decide) hk.1
  rw [exD1] at h
  refine h.mono ?_
  rintro e w' ⟨h1, N, rfl, _, h2⟩
  exact ⟨h1, N, rfl, h2⟩
theorem dec_ex2 {W : World} {g : Nat} (hg : W.heap[g]? = some (.cells #[.int .u8 0, .int .u8 1, .int .u8 1, .int .u8 102, .int .u8 0, .int .u8 0, .int .u8 1, .int .u8 22] 5 (0, 0))) (hk : Kd W) : Calls Tryz.prog 7 #[.slice (some ⟨g, 0, none⟩) 8 8] W fun e w' => Below W.heap.size W w' ∧ ∃ a c f d q r, e = .returned (.tuple #[.agg #[.slice a 0 c, .slice (some ⟨f, 0, none⟩) 1 d], .nilIface]) ∧ w'.cell? ⟨f, 3, none⟩ = some (.slice q 1 r) := by
  have hb : Bs W (.slice (some ⟨g, 0, none⟩) 8 8) [0, 1, 1, 102, 0, 0, 1, 22] := Bs.row (l := [0, 1, 1, 102, 0, 0, 1, 22]) (by decide) (by decide) (fun j hj => by
    rw [Nat.zero_add, cell_of_row W g _ _ 5 (0, 0) hg]
    match j, hj with
    | 0, _ => rfl
    | 1, _ => rfl
    | 2, _ => rfl
    | 3, _ => rfl
    | 4, _ => rfl
    | 5, _ => rfl
    | 6, _ => rfl
    | 7, _ => rfl)
  have h := decode_any [0, 1, 1, 102, 0, 0, 1, 22] hb (by decide) hk.1
  rw [exD2] at h
  refine h.mono ?_
  rintro e w' ⟨h1, vs, vf, rfl, ls, lf, e1, e2, o1, o2, -, o3, -⟩
  have hls : ls = [] := by
    have := congrArg List.length e1
    simp at this
    exact List.length_eq_zero_iff.1 this.symm
  subst hls
  obtain ⟨p, rfl⟩ : ∃ p, lf = [p] := by
    have := congrArg List.length e2
    simp at this
    exact List.length_eq_one_iff.1 this.symm
  have hp : p.1 = ⟨⟨#[102]⟩, 0, 0, [⟨22, 0⟩]⟩ := by simpa using e2.symm
  obtain ⟨a, c, rfl⟩ := own_len o1
  obtain ⟨f, d, rfl, hc⟩ := own_some o2 (by simp)
  have o4 := o3.1 p (by simp)
  rw [hp] at o4
  obtain ⟨q, r, hq⟩ := own_len o4
  refine ⟨h1, a, c, f, d, q, r, rfl, ?_⟩
  have := hc 3 (by simp)
  rw [this]
  show some p.2 = _
  rw [hq]
  rfl
theorem name_ex {W : World} (hk : Kd W) : Calls Tryz.prog 24 #[.int .i64 1] W fun e w' => e = .returned (.string ⟨#[112, 117, 115, 104]⟩) ∧ Below W.heap.size W w' := by
  have h := name_any 1 W hk.1
  rw [exN] at h
  exact h
theorem numb_ex {W : World} (hk : Kd W) : Calls Tryz.prog 25 #[.string ⟨#[100, 114, 111, 112]⟩] W fun e w' => e = .returned (.int .i64 39) ∧ w' = W := by
  have h := number_any ⟨#[100, 114, 111, 112]⟩ W hk.1
  rw [exO] at h
  exact h
end Go.Proofs.YtpolajoephjdhaaGreatDoor
