/-
  The law's looks.
-/
import Derived.Test.YtejbdhbphbgckaaSame
namespace Go.Proofs.Ytejbdhbphbgckaa
open Go.RowKit
/-- Numbers that are all the same, wherever they lie. -/
def Ia (w : World) (v : Value) (m : Int) : Prop :=
  ∃ ao n c, v = .slice ao n c ∧ n ≤ c ∧ c ≤ maxLen ∧ ∀ j, j < n → ∃ g o, ao = some ⟨g, o, none⟩ ∧ w.cell? ⟨g, o + j, none⟩ = some (.int .i64 m)
def Ea (w : World) (v : Value) (m : Int) : Prop :=
  ∃ ao n c, v = .slice ao n c ∧ n ≤ c ∧ c ≤ maxLen ∧ ∀ j, j < n → ∃ g o, ao = some ⟨g, o, none⟩ ∧ w.cell? ⟨g, o + j * 2, none⟩ = some (.int .i64 m) ∧ w.cell? ⟨g, o + j * 2 + 1, none⟩ = some (.int .i64 m)
theorem Ia.on {w w' : World} {v : Value} {m : Int} (h : Ia w v m) (hb : Below w.heap.size w w') : Ia w' v m := by
  obtain ⟨ao, n, c, rfl, h1, h2, h3⟩ := h
  refine ⟨ao, n, c, rfl, h1, h2, fun j hj => ?_⟩
  obtain ⟨g, o, e, hc⟩ := h3 j hj
  exact ⟨g, o, e, (hb.cell (p := ⟨g, o + j, none⟩) (World.block_lt_of_cell? w _ hc)).trans hc⟩
theorem Ea.on {w w' : World} {v : Value} {m : Int} (h : Ea w v m) (hb : Below w.heap.size w w') : Ea w' v m := by
  obtain ⟨ao, n, c, rfl, h1, h2, h3⟩ := h
  refine ⟨ao, n, c, rfl, h1, h2, fun j hj => ?_⟩
  obtain ⟨g, o, e, hc, hd⟩ := h3 j hj
  exact ⟨g, o, e, (hb.cell (p := ⟨g, o + j * 2, none⟩) (World.block_lt_of_cell? w _ hc)).trans hc, (hb.cell (p := ⟨g, o + j * 2 + 1, none⟩) (World.block_lt_of_cell? w _ hd)).trans hd⟩
/-- What came out, in cells. -/
abbrev Held := Value × Value × Int
def lc (l : List Held) : List Value := l.flatMap fun x => [x.1, x.2.1, .int .i64 x.2.2]
theorem lc_len (l : List Held) : (lc l).length = l.length * 3 := by
  induction l with
  | nil => rfl
  | cons x l ih => simp only [lc, List.flatMap_cons, List.length_append, List.length_cons, List.length_nil] at ih ⊢; omega
theorem lc_at (l : List Held) (i : Nat) (hi : i < l.length) : (lc l)[i * 3]? = some l[i].1 ∧ (lc l)[i * 3 + 1]? = some l[i].2.1 ∧ (lc l)[i * 3 + 2]? = some (.int .i64 l[i].2.2) := by
  induction l generalizing i with
  | nil => simp at hi
  | cons x l ih =>
    cases i with
    | zero => simp [lc]
    | succ i =>
      have := ih i (by simpa using hi)
      simp only [lc, List.flatMap_cons] at this ⊢
      simp only [show (i + 1) * 3 = i * 3 + 3 by omega, show i * 3 + 3 + 1 = (i * 3 + 1) + 3 by omega, show i * 3 + 3 + 2 = (i * 3 + 2) + 3 by omega]
      simpa using this
theorem own_held {w : World} {B g n c : Nat} {l : List Held} (h : w.ownsRow B 69 3 (.slice (some ⟨g, 0, none⟩) n c) n (lc l)) (i : Nat) (hi : i < l.length) : w.cell? ⟨g, i * 3, none⟩ = some l[i].1 ∧ w.cell? ⟨g, i * 3 + 1, none⟩ = some l[i].2.1 ∧ w.cell? ⟨g, i * 3 + 2, none⟩ = some (.int .i64 l[i].2.2) := by
  have hl := h.1
  rw [lc_len] at hl
  rw [h.cellAt (i * 3) (by omega), h.cellAt (i * 3 + 1) (by omega), h.cellAt (i * 3 + 2) (by omega)]
  exact lc_at l i hi
set_option maxHeartbeats 1000000 in
theorem looks_any (gw B : Nat) (vl : Value) (L : List Held) (w : World) (h4 : w.cell? ⟨gw, 4, none⟩ = some vl) (hr : w.ownsRow B 69 3 vl L.length (lc L)) (hL : ∀ i (hi : i < L.length), Ia w L[i].1 L[i].2.2 ∧ Ea w L[i].2.1 L[i].2.2) (hm : L.length ≤ 1000000) :
    Calls Try.prog 9 #[.pointer (some ⟨gw, 0, none⟩)] w fun e w' => e = .returned (.bool true) ∧ Below w.heap.size w w' := by
  have HR := hide hr
  have HL := hide hL
  obtain ⟨ao, c, rfl⟩ := own_len hr
  clear hr hL
  have H4 := hide h4
  clear h4
  go_enter Try.func9, Try.ntmps9
  go_wp2_with fail
  go_loopw [3] (fun v3 wr => ∃ i : Nat, i ≤ L.length ∧ v3 = .int .i64 (i : Int) ∧ Hid (Below w.heap.size w wr)) (fun v3 _ => L.length - (intOf v3).toNat)
  case atStart => exact ⟨0, Nat.zero_le _, rfl, Below.refl _ _⟩
  case round =>
    obtain ⟨i, hil, rfl, HW⟩ := hrel
    have c4 : wr.cell? ⟨gw, 4, none⟩ = some (.slice ao L.length c) := (HW.out.cell (p := ⟨gw, 4, none⟩) (World.block_lt_of_cell? w _ H4.out)).trans H4.out
    by_cases hlt : i < L.length
    · have t1 : (i : Int) < (L.length : Int) := by omega
      have hr := own_later HR.out HW.out
      obtain ⟨gl, c', e, -, -⟩ := own_form hr (by omega)
      simp only [Value.slice.injEq] at e
      obtain ⟨rfl, -, rfl⟩ := e
      obtain ⟨b1, b2, b3⟩ := own_held hr i hlt
      have hAE : Ia wr L[i].1 L[i].2.2 ∧ Ea wr L[i].2.1 L[i].2.2 := ⟨(HL.out i hlt).1.on HW.out, (HL.out i hlt).2.on HW.out⟩
      generalize L[i] = x at *
      obtain ⟨va, ve, m⟩ := x
      simp only at b1 b2 b3 hAE
      obtain ⟨⟨aa, na, ca, rfl, hna, hca, hA⟩, ⟨ae, ne, ce, rfl, hne, hce, hE⟩⟩ := hAE
      unfold maxLen at hca hce
      have HA := hide hA
      have HE := hide hE
      clear hr hA hE
      go_upto_region 5 with fail
      obtain ⟨wb, hwb⟩ : ∃ X, X = wr.alloc (.cells #[.slice aa na ca, .slice ae ne ce, .int .i64 m] 69) := ⟨_, rfl⟩
      have HX : Hid (∀ W, Below wb.heap.size wb W → W.cell? ⟨wr.heap.size, 0, none⟩ = some (.slice aa na ca) ∧ W.cell? ⟨wr.heap.size, 1, none⟩ = some (.slice ae ne ce) ∧ W.cell? ⟨wr.heap.size, 2, none⟩ = some (.int .i64 m)) := fun W hW => by
        subst hwb
        refine ⟨(hW.cell (p := ⟨wr.heap.size, 0, none⟩) (by simp)).trans ?_, (hW.cell (p := ⟨wr.heap.size, 1, none⟩) (by simp)).trans ?_, (hW.cell (p := ⟨wr.heap.size, 2, none⟩) (by simp)).trans ?_⟩ <;> simp
      have HWb : Hid (Below w.heap.size w wb) := hwb ▸ below_on HW.out (below_alloc wr _)
      have HA2 : Hid (∀ W, Below wb.heap.size wb W → ∀ j, j < na → ∃ g o, aa = some ⟨g, o, none⟩ ∧ W.cell? ⟨g, o + j, none⟩ = some (.int .i64 m)) := fun W hW j hj => by
        have h1 : Below wr.heap.size wr W := below_on (below_alloc wr _) (hwb ▸ hW)
        obtain ⟨g, o, e, hc⟩ := HA.out j hj
        exact ⟨g, o, e, (h1.cell (p := ⟨g, o + j, none⟩) (World.block_lt_of_cell? wr _ hc)).trans hc⟩
      have HE2 : Hid (∀ W, Below wb.heap.size wb W → ∀ j, j < ne → ∃ g o, ae = some ⟨g, o, none⟩ ∧ W.cell? ⟨g, o + j * 2, none⟩ = some (.int .i64 m) ∧ W.cell? ⟨g, o + j * 2 + 1, none⟩ = some (.int .i64 m)) := fun W hW j hj => by
        have h1 : Below wr.heap.size wr W := below_on (below_alloc wr _) (hwb ▸ hW)
        obtain ⟨g, o, e, hc, hd⟩ := HE.out j hj
        exact ⟨g, o, e, (h1.cell (p := ⟨g, o + j * 2, none⟩) (World.block_lt_of_cell? wr _ hc)).trans hc, (h1.cell (p := ⟨g, o + j * 2 + 1, none⟩) (World.block_lt_of_cell? wr _ hd)).trans hd⟩
      rw [← hwb]
      generalize wr.heap.size = k at *
      clear HA HE hwb HW c4 b1 b2 b3 HL HR H4
      go_wp2_with fail
      go_loopw [5] (fun v5 W => ∃ j : Nat, j ≤ na ∧ v5 = .int .i64 (j : Int) ∧ Hid (Below wb.heap.size wb W)) (fun v5 _ => na - (intOf v5).toNat)
      case atStart => exact ⟨0, Nat.zero_le _, rfl, Below.refl _ _⟩
      case round =>
        obtain ⟨j, hjl, rfl, HV⟩ := hrel
        obtain ⟨x0, x1, x2⟩ := HX.out _ HV.out
        by_cases hj : j < na
        · have t2 : (j : Int) < (na : Int) := by omega
          obtain ⟨g, o, rfl, y⟩ := HA2.out _ HV.out j hj
          go_upto_region 8 with fail
          go_region_held3 (fun W => W.cell? ⟨k, 0, none⟩ = some (.slice (some ⟨g, o, none⟩) na ca) ∧ W.cell? ⟨k, 2, none⟩ = some (.int .i64 m) ∧ W.cell? ⟨g, o + j, none⟩ = some (.int .i64 m)) (go_keep) (fail)
          go_wp2_with fail
          go_roundw
          case rel => exact ⟨j + 1, by omega, by go_num, below_on HV.out (below_drew _)⟩
          case measure => simp [intOf]; omega
        · have t2 : ¬ (j : Int) < (na : Int) := by omega
          clear HA2
          go_wp2_with fail
          go_loopw [6] (fun v6 W => ∃ j : Nat, j ≤ ne ∧ v6 = .int .i64 (j : Int) ∧ Hid (Below wb.heap.size wb W)) (fun v6 _ => ne - (intOf v6).toNat)
          case atStart => exact ⟨0, Nat.zero_le _, rfl, HV⟩
          case round =>
            obtain ⟨j2, hjl2, rfl, HU⟩ := hrel
            clear x0 x1 x2
            obtain ⟨x0, x1, x2⟩ := HX.out _ HU.out
            by_cases hj2 : j2 < ne
            · have t3 : (j2 : Int) < (ne : Int) := by omega
              obtain ⟨g, o, rfl, y, z⟩ := HE2.out _ HU.out j2 hj2
              go_upto_region 13 with fail
              go_region_held3 (fun W => W.cell? ⟨k, 1, none⟩ = some (.slice (some ⟨g, o, none⟩) ne ce) ∧ W.cell? ⟨k, 2, none⟩ = some (.int .i64 m) ∧ W.cell? ⟨g, o + j2 * 2, none⟩ = some (.int .i64 m) ∧ W.cell? ⟨g, o + j2 * 2 + 1, none⟩ = some (.int .i64 m)) (go_keep) (fail)
              go_wp2_with fail
              go_roundw
              case rel => exact ⟨j2 + 1, by omega, by go_num, below_on HU.out (below_drew _)⟩
              case measure => simp [intOf]; omega
            · have t3 : ¬ (j2 : Int) < (ne : Int) := by omega
              go_wp2_with fail
              go_roundw
              case rel => exact ⟨i + 1, by omega, by go_num, below_on HWb.out HU.out⟩
              case measure => simp [intOf]; omega
    · have t1 : ¬ (i : Int) < (L.length : Int) := by omega
      go_wp2_with fail
      go_ret
      exact ⟨rfl, HW.out⟩
end Go.Proofs.Ytejbdhbphbgckaa
